import PyProof.Rows.All
import Wide.All
import OpenK.AllK
import Wide.FinOn
import PyProof.ReprReads
import PyProof.FitsInt
import KE.KExcIs
import HandS.ForMost
import HandS.ForExc
import HandS.ExcInit
import HandS.ExcOwn
import HandS.ExcValue
import HandS.DeepEq
import HandS.IsInst
import HandS.TupAny
import HandS.Conv
import HandS.Style
import HandS.FStrTup
import PyProof.CallFns
import KE.KEqNest
import HandS.Codes
import HandS.Walk
import HandS.Text
import HandS.FltList
import HandS.StrMore
import HandS.FStr
import HandS.Deep
import HandS.TupLe
import HandS.TupMul
import HandS.Wide
import HandS.StrSplit
import HandS.WordsDict
import HandS.RaiseMore
import HandS.DictComp
import HandS.TupSets
import HandS.Strs
import HandS.DictTup
import KE.KItemsList
import HandS.Dict
import HandS.SortRule
import KE.KSortTupAny
import HandS.SortInts
import KE.KDictPairs
import HandS.Finally
import HandS.Remove
import KE.KIndexOf
import PySem.Challenge.RW_packsworn_k66_trees_and_steps
set_option Elab.async false
set_option linter.all false
set_option maxRecDepth 100000
set_option maxHeartbeats 16000000
/-! What a value prints as, over the abstract heap: one relation over lists of values. -/
namespace RX
open PySem PySem.Spec PyProof.Rows L2

theorem rd_map {H H' : Hp} {a : Addr} {u : HO} (k : ∀ o, H a = some o → H' a = some o) (h : Rd H a u) : Rd H' a u := h.elim (fun h => .inl (k _ h)) fun ⟨o, h⟩ => .inr ⟨o, k _ h⟩
theorem rd_at {H : Hp} {a : Addr} {u : HO} (h : Rd H a u) : ∃ o, H a = some o := h.elim (fun h => ⟨_, h⟩) fun ⟨_, h⟩ => ⟨_, h⟩
def kc (ks : List (Str × V)) : Nat := (ks.map fun p => 10 * p.1.length + 20).sum
/-- the texts that some values print as: depth at most d, the objects as that are met, the texts, what they cost -/
inductive Shw (H : Hp) : List V → Nat → List Addr → List Str → Nat → Prop
  | nil {d : Nat} : Shw H [] d [] [] 0
  | non {vs d as ts c} (r : Shw H vs d as ts c) : Shw H (.non :: vs) d as ("None" :: ts) (10 + c)
  | bl {vs d as ts c} (b : Bool) (r : Shw H vs d as ts c) : Shw H (.bl b :: vs) d as ((if b then "True" else "False" : String) :: ts) (10 + c)
  | int {vs d as ts c} (i : Int) (hi : i.natAbs < 10 ^ 60) (r : Shw H vs d as ts c) : Shw H (.int i :: vs) d as (toString i :: ts) (70 + c)
  | str {vs d as ts c} (x : Str) (hx : x.length ≤ 1000000) (hc : ∀ k ∈ x.cps.toList, k < 16 ^ 8) (r : Shw H vs d as ts c) : Shw H (.str x :: vs) d as (reprText x :: ts) (10 * x.length + 10 + c)
  | lst {vs d as ts c a xs bs us e} (h : H a = some (.lst xs)) (q : Shw H xs d bs us e) (hn : a ∉ bs) (r : Shw H vs (d + 1) as ts c) : Shw H (.ref a :: vs) (d + 1) ((a :: bs) ++ as) (listText us :: ts) (10 + e + c)
  | tup {vs d as ts c a xs bs us e} (h : Rd H a (.tup xs)) (q : Shw H xs d bs us e) (hn : a ∉ bs) (r : Shw H vs (d + 1) as ts c) : Shw H (.ref a :: vs) (d + 1) ((a :: bs) ++ as) (tupleText us :: ts) (10 + e + c)
  | dic {vs d as ts c a bs us e} (ks : List (Str × V)) (h : Rd H a (.dK (ks.map fun p => (Sum.inr p.1, p.2)))) (hk : ∀ p ∈ ks, p.1.length ≤ 1000000 ∧ ∀ k ∈ p.1.cps.toList, k < 16 ^ 8)
      (q : Shw H (ks.map (·.2)) d bs us e) (hn : a ∉ bs) (r : Shw H vs (d + 1) as ts c) :
      Shw H (.ref a :: vs) (d + 1) ((a :: bs) ++ as) (dictText (List.zipWith (fun p u => reprText p.1 ++ ": " ++ u) ks us) :: ts) (10 + kc ks + e + c)

variable {H H' : Hp} {vs ws : List V} {d d' : Nat} {as bs : List Addr} {ts us : List Str} {c e : Nat}
theorem Shw.len (h : Shw H vs d as ts c) : ts.length = vs.length := by
  induction h with
  | nil => rfl
  | _ => simp_all
theorem Shw.there (h : Shw H vs d as ts c) : ∀ b ∈ as, ∃ o, H b = some o := by
  induction h with
  | nil => intro b hb; cases hb
  | non r ih => exact ih
  | bl b r ih => exact ih
  | int i hi r ih => exact ih
  | str x hx hc r ih => exact ih
  | lst h q hn r i1 i2 =>
    intro b hb
    rcases List.mem_append.mp hb with z | z
    · rcases List.mem_cons.mp z with y | y
      · exact ⟨_, y ▸ h⟩
      · exact i1 b y
    · exact i2 b z
  | tup h q hn r i1 i2 =>
    intro b hb
    rcases List.mem_append.mp hb with z | z
    · rcases List.mem_cons.mp z with y | y
      · exact y ▸ rd_at h
      · exact i1 b y
    · exact i2 b z
  | dic ks h hk q hn r i1 i2 =>
    intro b hb
    rcases List.mem_append.mp hb with z | z
    · rcases List.mem_cons.mp z with y | y
      · exact y ▸ rd_at h
      · exact i1 b y
    · exact i2 b z
theorem Shw.fresh {p : Addr} (h : Shw H vs d as ts c) (hp : H p = none) : p ∉ as := fun hm => by
  obtain ⟨o, e⟩ := h.there p hm
  rw [hp] at e; cases e
/-- what is kept at the objects that are met -/
theorem Shw.keep (h : Shw H vs d as ts c) : (∀ b ∈ as, ∀ o, H b = some o → H' b = some o) → Shw H' vs d as ts c := by
  induction h with
  | nil => intro _; exact .nil
  | non r ih => intro k; exact .non (ih k)
  | bl b r ih => intro k; exact .bl b (ih k)
  | int i hi r ih => intro k; exact .int i hi (ih k)
  | str x hx hc r ih => intro k; exact .str x hx hc (ih k)
  | lst h q hn r i1 i2 =>
    intro k
    exact .lst (k _ (List.mem_append_left _ List.mem_cons_self) _ h) (i1 fun b hb => k b (List.mem_append_left _ (List.mem_cons_of_mem _ hb))) hn (i2 fun b hb => k b (List.mem_append_right _ hb))
  | tup h q hn r i1 i2 =>
    intro k
    exact .tup (rd_map (k _ (List.mem_append_left _ List.mem_cons_self)) h) (i1 fun b hb => k b (List.mem_append_left _ (List.mem_cons_of_mem _ hb))) hn (i2 fun b hb => k b (List.mem_append_right _ hb))
  | dic ks h hk q hn r i1 i2 =>
    intro k
    exact .dic ks (rd_map (k _ (List.mem_append_left _ List.mem_cons_self)) h) hk (i1 fun b hb => k b (List.mem_append_left _ (List.mem_cons_of_mem _ hb))) hn (i2 fun b hb => k b (List.mem_append_right _ hb))
theorem Shw.up1 (h : Shw H vs d as ts c) : Shw H vs (d + 1) as ts c := by
  induction h with
  | nil => exact .nil
  | non r ih => exact .non ih
  | bl b r ih => exact .bl b ih
  | int i hi r ih => exact .int i hi ih
  | str x hx hc r ih => exact .str x hx hc ih
  | lst h q hn r i1 i2 => exact .lst h i1 hn i2
  | tup h q hn r i1 i2 => exact .tup h i1 hn i2
  | dic ks h hk q hn r i1 i2 => exact .dic ks h hk i1 hn i2
theorem Shw.up (h : Shw H vs d as ts c) (hd : d ≤ d') : Shw H vs d' as ts c := by
  induction hd with
  | refl => exact h
  | step _ ih => exact ih.up1
/-- one more in front -/
theorem Shw.cons1 {v : V} (h : Shw H [v] d as ts c) : Shw H ws d bs us e → Shw H (v :: ws) d (as ++ bs) (ts ++ us) (c + e) := by
  intro q
  generalize hv : [v] = vs at h
  cases h with
  | nil => cases hv
  | non r => cases hv; cases r; simpa using Shw.non q
  | bl b r => cases hv; cases r; simpa using Shw.bl b q
  | int i hi r => cases hv; cases r; simpa using Shw.int i hi q
  | str x hx hc r => cases hv; cases r; simpa using Shw.str x hx hc q
  | lst h p hn r => cases hv; cases r; simpa using Shw.lst h p hn q
  | tup h p hn r => cases hv; cases r; simpa using Shw.tup h p hn q
  | dic ks h hk p hn r => cases hv; cases r; simpa using Shw.dic ks h hk p hn q
/-- each of them alone -/
theorem Shw.each (h : Shw H vs d as ts c) : ∀ v ∈ vs, ∃ as t e, Shw H [v] d as [t] e ∧ e ≤ c := by
  induction h with
  | nil => intro v hv; cases hv
  | non r ih =>
    intro v hv
    rcases List.mem_cons.mp hv with z | z
    · subst z
      exact ⟨_, _, _, Shw.non Shw.nil, by omega⟩
    · obtain ⟨as, t, e, q, l⟩ := ih v z
      exact ⟨as, t, e, q, by omega⟩
  | bl b r ih =>
    intro v hv
    rcases List.mem_cons.mp hv with z | z
    · subst z
      exact ⟨_, _, _, Shw.bl b Shw.nil, by omega⟩
    · obtain ⟨as, t, e, q, l⟩ := ih v z
      exact ⟨as, t, e, q, by omega⟩
  | int i hi r ih =>
    intro v hv
    rcases List.mem_cons.mp hv with z | z
    · subst z
      exact ⟨_, _, _, Shw.int i hi Shw.nil, by omega⟩
    · obtain ⟨as, t, e, q, l⟩ := ih v z
      exact ⟨as, t, e, q, by omega⟩
  | str x hx hc r ih =>
    intro v hv
    rcases List.mem_cons.mp hv with z | z
    · subst z
      exact ⟨_, _, _, Shw.str x hx hc Shw.nil, by omega⟩
    · obtain ⟨as, t, e, q, l⟩ := ih v z
      exact ⟨as, t, e, q, by omega⟩
  | lst h q hn r i1 i2 =>
    intro v hv
    rcases List.mem_cons.mp hv with z | z
    · subst z
      exact ⟨_, _, _, Shw.lst h q hn Shw.nil, by omega⟩
    · obtain ⟨as, t, e, q, l⟩ := i2 v z
      exact ⟨as, t, e, q, by omega⟩
  | tup h q hn r i1 i2 =>
    intro v hv
    rcases List.mem_cons.mp hv with z | z
    · subst z
      exact ⟨_, _, _, Shw.tup h q hn Shw.nil, by omega⟩
    · obtain ⟨as, t, e, q, l⟩ := i2 v z
      exact ⟨as, t, e, q, by omega⟩
  | dic ks h hk q hn r i1 i2 =>
    intro v hv
    rcases List.mem_cons.mp hv with z | z
    · subst z
      exact ⟨_, _, _, Shw.dic ks h hk q hn Shw.nil, by omega⟩
    · obtain ⟨as, t, e, q, l⟩ := i2 v z
      exact ⟨as, t, e, q, by omega⟩
/-- what a value is of which all this is said -/
theorem Shw.kind {v : V} (h : Shw H [v] d as ts c) : flatB v = true ∨ ∃ a, v = .ref a := by
  generalize hv : [v] = vs at h
  cases h with
  | nil => cases hv
  | non r => cases hv; exact .inl rfl
  | bl b r => cases hv; exact .inl rfl
  | int i hi r => cases hv; exact .inl rfl
  | str x hx hc r => cases hv; exact .inl rfl
  | lst h p hn r => cases hv; exact .inr ⟨_, rfl⟩
  | tup h p hn r => cases hv; exact .inr ⟨_, rfl⟩
  | dic ks h hk p hn r => cases hv; exact .inr ⟨_, rfl⟩
/-- v prints, at depth d at most, at cost B at most -/
def Pt (H : Hp) (d B : Nat) (v : V) : Prop := ∃ as t e, Shw H [v] d as [t] e ∧ e ≤ B
theorem Pt.mono {B B' : Nat} {v : V} (p : Pt H d B v) (hd : d ≤ d') (hB : B ≤ B') : Pt H d' B' v := by
  obtain ⟨as, t, e, q, l⟩ := p
  exact ⟨as, t, e, q.up hd, by omega⟩
theorem Pt.same {B : Nat} {v : V} (p : Pt H d B v) (k : ∀ b o, H b = some o → H' b = some o) : Pt H' d B v := by
  obtain ⟨as, t, e, q, l⟩ := p
  exact ⟨as, t, e, q.keep fun b _ => k b, l⟩
theorem Pt.all {B : Nat} : ∀ {vs : List V}, (∀ v ∈ vs, Pt H d B v) → ∃ as ts e, Shw H vs d as ts e ∧ e ≤ B * vs.length
  | [], _ => ⟨_, _, _, .nil, Nat.zero_le _⟩
  | v :: vs, h => by
    obtain ⟨as, t, e, q, l⟩ := h v List.mem_cons_self
    obtain ⟨bs, us, f, r, m⟩ := Pt.all (vs := vs) fun w hw => h w (List.mem_cons_of_mem _ hw)
    refine ⟨_, _, _, q.cons1 r, ?_⟩
    rw [List.length_cons, Nat.mul_succ]
    omega
theorem Pt.lst {B : Nat} {a : Addr} {xs : List V} (h : H a = some (.lst xs)) (k : ∀ v ∈ xs, ∃ d0, d0 < d ∧ Pt H d0 B v) (hf : ∀ as ts e, Shw H xs (d - 1) as ts e → a ∉ as) (hd : 0 < d) : Pt H d (10 + B * xs.length) (.ref a) := by
  obtain ⟨d0, rfl⟩ : ∃ d0, d = d0 + 1 := ⟨d - 1, by omega⟩
  obtain ⟨as, ts, e, q, l⟩ := Pt.all (H := H) (d := d0) (B := B) (vs := xs) fun v hv => by
    obtain ⟨d1, h1, p⟩ := k v hv
    exact p.mono (by omega) (Nat.le_refl _)
  exact ⟨_, _, _, .lst h q (hf _ _ _ q) .nil, by omega⟩
end RX
namespace RX
open PySem PySem.Spec PyProof.Rows L2
theorem list_len (ts : List Str) : (listText ts).length ≤ piled ts + 2 := by
  cases ts with
  | nil => decide +kernel
  | cons t r =>
    have e0 : (listText (t :: r)).length = (textFrom 1 ((("[" : Str) ++ ("" : String)) ++ t) r).length + 1 := by
      show (textFrom 1 ((("[" : Str) ++ ("" : String)) ++ t) r ++ "]").length = _
      rw [strLen_append]; rfl
    have e1 : ((("[" : Str) ++ ("" : String)) ++ t).length = 1 + t.length := by rw [strLen_append]; rfl
    rw [e0, textFrom_length_pos _ _ _ Nat.one_pos, e1, piled_cons]
    omega
theorem dict_len (ps : List Str) : (dictText ps).length ≤ piled ps + 2 := by
  have e : (dictText ps).length = 1 + (Str.join ", " ps).length + 1 := by
    unfold dictText
    rw [strLen_append, strLen_append]; rfl
  by_cases h : ps = []
  · subst h; decide +kernel
  · have := join_length_add ps h
    omega
theorem zip_len : ∀ (ks : List (Str × V)) (us : List Str), (∀ p ∈ ks, p.1.length ≤ 1000000 ∧ ∀ k ∈ p.1.cps.toList, k < 16 ^ 8) → ks.length = us.length →
    piled (List.zipWith (fun p u => reprText p.1 ++ ": " ++ u) ks us) ≤ kc ks + piled us
  | [], _, _, _ => by simp [piled]
  | _ :: _, [], _, h => by cases h
  | p :: ks, u :: us, hk, hl => by
    have ih := zip_len ks us (fun q hq => hk q (List.mem_cons_of_mem _ hq)) (by simpa using hl)
    obtain ⟨z1, z2⟩ := hk p List.mem_cons_self
    have r := StrLaws.reprText_len p.1 z2
    have e : (reprText p.1 ++ ": " ++ u).length = (reprText p.1).length + 2 + u.length := by
      rw [strLen_append, strLen_append]; rfl
    have e2 : kc (p :: ks) = 10 * p.1.length + 20 + kc ks := rfl
    rw [List.zipWith_cons_cons, piled_cons, piled_cons, e, e2]
    omega
variable {H H' : Hp} {vs ws : List V} {d d' : Nat} {as bs : List Addr} {ts us : List Str} {c e : Nat}
theorem Shw.cost (h : Shw H vs d as ts c) : piled ts ≤ c := by
  induction h with
  | nil => exact Nat.zero_le _
  | non r ih =>
    rw [piled_cons]
    have : ("None" : Str).length = 4 := by decide +kernel
    omega
  | bl b r ih =>
    rw [piled_cons]
    have : ((if b then "True" else "False" : String) : Str).length ≤ 5 := by cases b <;> decide +kernel
    omega
  | int i hi r ih =>
    rw [piled_cons]
    have q := int_text_length_le10 (k := 60) (by decide) hi
    have : (Str.ofString (toString i)).length = (toString i).length := PySem.ofString_length _
    clear hi
    omega
  | str x hx hc r ih =>
    rw [piled_cons]
    have := StrLaws.reprText_len x hc
    omega
  | lst h q hn r i1 i2 =>
    rw [piled_cons]
    have := list_len ‹_›
    omega
  | tup h q hn r i1 i2 =>
    rw [piled_cons]
    have := fmt_text ‹_›
    omega
  | @dic vs d as ts c a bs us e ks h hk q hn r i1 i2 =>
    rw [piled_cons]
    have z := zip_len ks us hk (by rw [q.len, List.length_map])
    have := dict_len (List.zipWith (fun p u => reprText p.1 ++ ": " ++ u) ks us)
    omega
theorem one_le {t : Str} {ts : List Str} (h : t ∈ ts) : t.length + 2 ≤ piled ts := by
  induction ts with
  | nil => cases h
  | cons u ts ih =>
    rw [piled_cons]
    rcases List.mem_cons.mp h with z | z
    · subst z; omega
    · have := ih z; omega
section
variable {X : Cx} {pins : List (Addr × Obj)} {σ : L2.St} {s : Shared}
theorem kv_vals : ∀ {ks : List (Str × V)} {vs : List (Key × Value)}, KV (ks.map fun p => ((Sum.inr p.1 : Key), p.2)) vs → Vals (ks.map (·.2)) (vs.map (·.2))
  | [], _, h => by cases h; exact .nil
  | p :: ks, _, h => by
    cases h with
    | cons a b => exact .cons a.2 (kv_vals b)
theorem entries {prog : Program} {w : World} {h₀ : Heap} : ∀ (ks : List (Str × V)) (vs : List (Key × Value)) (es : List DictEntry) (us : List Str),
    KV (ks.map fun p => ((Sum.inr p.1 : Key), p.2)) vs → Pairs (mixKind prog w) es vs → (∀ p ∈ ks, p.1.length ≤ 1000000 ∧ ∀ k ∈ p.1.cps.toList, k < 16 ^ 8) →
    (∀ ws : List Value, Vals (ks.map (·.2)) ws → ReprAllK prog w bs h₀ d ws us) →
    ReprEntriesK prog w bs h₀ d es (List.zipWith (fun p u => reprText p.1 ++ ": " ++ u) ks us)
  | [], _, es, us, hv, hp, _, _ => by
    cases hv
    cases hp
    exact .nil
  | p :: ks, vs, es, us, hv, hp, hk, hr => by
    cases hv with
    | @cons _ q _ vs' h1 h2 =>
      obtain ⟨h1a, h1b⟩ := h1
      cases hp with
      | @cons en _ es' _ hi hj hp' =>
        have h0 := hr (q.2 :: vs'.map (·.2)) (.cons h1b (kv_vals h2))
        cases us with
        | nil => cases h0
        | cons u us =>
          have rest : ∀ ws : List Value, Vals (ks.map (·.2)) ws → ReprAllK prog w bs h₀ d ws us := fun ws hw => by
            have z := hr (q.2 :: ws) (.cons h1b hw)
            cases z with
            | cons _ z2 => exact z2
          have r2 := entries ks vs' es' us h2 hp' (fun x hx => hk x (List.mem_cons_of_mem _ hx)) rest
          obtain ⟨z1, z2⟩ := hk p List.mem_cons_self
          have hkey : ∃ t, en.key = .str p.1 t := by
            obtain ⟨q1, q2⟩ := q
            have e1 : Sum.inr p.1 = q1 := h1a
            subst e1
            obtain ⟨t, e⟩ := Value.isStrOf_shape (x := p.1) (v := en.key) hi
            exact ⟨t, e⟩
          obtain ⟨t, ek⟩ := hkey
          rw [List.zipWith_cons_cons]
          refine .cons (e := en) ?_ ?_ r2
          · rw [ek]
            exact .of_is (ReprIs.str p.1 t (by
              have := StrLaws.reprText_len p.1 z2
              rw [sizeLine_eq]
              omega)) _ _ _
          · rw [hj]
            cases h0 with
            | cons z _ => exact z
theorem Shw.runs (I : Inv X pins σ H s) (h : Shw H vs d as ts c) : c ≤ sizeLine → ∀ ws : List Value, Vals vs ws → ReprAllK X.prog X.w as s.heap d ws ts := by
  induction h with
  | nil =>
    intro _ ws r
    cases r
    exact .nil
  | non r ih =>
    intro hc ws rv
    cases rv with
    | cons r1 r2 =>
      cases (show _ = Value.none from r1)
      exact .cons (.of_is ReprIs.none _ _ _) (ih (by omega) _ r2)
  | bl b r ih =>
    intro hc ws rv
    cases rv with
    | cons r1 r2 =>
      cases (show _ = Value.bool b from r1)
      cases b <;> exact .cons (.of_is (ReprIs.bool _) _ _ _) (ih (by omega) _ r2)
  | int i hi r ih =>
    intro hc ws rv
    cases rv with
    | cons r1 r2 =>
      obtain ⟨t, rfl⟩ := r1
      refine .cons (.of_is (ReprIs.int t ?_) _ _ _) (ih (by omega) _ r2)
      by_cases h0 : i.natAbs = 0
      · rw [h0]; decide
      · exact (Nat.log2_lt h0).mpr (Nat.lt_trans hi (by decide +kernel))
  | str x hx hk r ih =>
    intro hc ws rv
    cases rv with
    | cons r1 r2 =>
      obtain ⟨t, rfl⟩ := r1
      refine .cons (.of_is (ReprIs.str x t ?_) _ _ _) (ih (by omega) _ r2)
      have := StrLaws.reprText_len x hk
      rw [sizeLine_eq]
      omega
  | @lst vs d as ts c a xs bs us e h q hn r i1 i2 =>
    intro hc ws rv
    cases rv with
    | cons r1 r2 =>
      cases (show _ = Value.ref a from r1)
      obtain ⟨_, its, n, rx, hg⟩ := (show ObjOk X.prog X.w H s.heap a (.lst xs) from I.hok a _ h)
      have k := i1 (by omega) its rx
      have k2 := (i2 (by omega) _ r2).more_le (as' := (a :: bs) ++ as) (fun b hb => List.mem_append_right _ hb) (Nat.le_refl _)
      refine .cons ?_ k2
      have one : ReprK X.prog X.w (a :: bs) s.heap (d + 1) (.ref a) (listText us) := by
        cases its with
        | nil =>
          cases k
          exact .listEmpty hg rfl rfl
        | cons y l => exact .list hg rfl rfl hn (by simpa using k.length_eq) fun i z hz => k.item i z (by simpa using hz)
      exact one.more fun b hb => List.mem_append_left _ hb
  | @tup vs d as ts c a xs bs us e h q hn r i1 i2 =>
    intro hc ws rv
    cases rv with
    | cons r1 r2 =>
      cases (show _ = Value.ref a from r1)
      obtain ⟨_, its, rx, ob, hg, hcl, n, hd⟩ := (show ObjOk X.prog X.w H s.heap a (.tup xs) from rd_of I.hok h)
      have k := i1 (by omega) its rx
      have k2 := (i2 (by omega) _ r2).more_le (as' := (a :: bs) ++ as) (fun b hb => List.mem_append_right _ hb) (Nat.le_refl _)
      exact .cons ((ReprK.tuple hg hcl hd hn k).more fun b hb => List.mem_append_left _ hb) k2
  | @dic vs d as ts c a bs us e ks h hk q hn r i1 i2 =>
    intro hc ws rv
    cases rv with
    | cons r1 r2 =>
      cases (show _ = Value.ref a from r1)
      obtain ⟨_, hsm, vv, rk, ob, es, ep, hg, hex, hd, _, hp, _⟩ := (show ObjOk X.prog X.w H s.heap a (.dK (ks.map fun p => (Sum.inr p.1, p.2))) from rd_of I.hok h)
      have k2 := (i2 (by omega) _ r2).more_le (as' := (a :: bs) ++ as) (fun b hb => List.mem_append_right _ hb) (Nat.le_refl _)
      exact .cons ((ReprK.dict hg hex.1 hd hsm hn (entries ks vv es.toList us rk hp hk fun ws hw => i1 (by omega) ws hw)).more fun b hb => List.mem_append_left _ hb) k2
/-- repr(x), x a list -/
theorem call_reprL (hg : X.A.guards = some []) (hu : X.A.units + 64 < cLine) : CallR X (.builtin "repr") (fun vs H Q => ∃ (p : Addr) (d : Nat) (as : List Addr) (t : Str) (c : Nat), vs = [.ref p] ∧ (∃ xs, H p = some (.lst xs)) ∧ Shw H [.ref p] d as [t] c ∧ d ≤ 60 ∧ c ≤ 16000000 ∧ Q (.str t) H) := by
  intro pins s σ H xs us Q I r h
  obtain ⟨p, d, as, t, c, rfl, ⟨xs, hp⟩, hs, hd, hc, q⟩ := h
  obtain ⟨u, rfl, rfl⟩ := vals1 r
  have hz : sizeLine = 16777216 := sizeLine_eq
  have hcost := hs.cost
  rw [piled_cons] at hcost
  obtain ⟨_, its, n, rx, hgt⟩ := (show ObjOk X.prog X.w H s.heap p (.lst xs) from I.hok p _ hp)
  cases hs with
  | @lst _ d0 _ _ _ _ ys bs ts e hp' q1 hn r1 =>
    cases r1
    rw [hp] at hp'
    cases hp'
    have k := q1.runs I (by omega) its rx
    refine call_repr_slot (T := "list") (idr := "list.__repr__") (by omega) ⟨_, hgt, rfl⟩ PySem.F.slot_list_repr.toG ?_
    cases its with
    | nil =>
      cases k
      exact call_list_repr_empty ⟨_, hgt, rfl⟩ hgt rfl ⟨_, _, rfl, .str _, H, I.tok _, ⟨_, rfl⟩, q⟩
    | cons y l =>
      refine call_list_reprK (g := []) hgt rfl rfl hn (by simpa using k.length_eq) (fun i z hz => k.item i z (by simpa using hz)) hg (fun b _ => Clear.nil b) ?_ (fun _ _ e => e) (fun h' u tk hk => ?_) (by omega)
      · show X.A.units + 1 + (d0 + 1) < cLine
        omega
      · exact ⟨_, _, rfl, .str _, H, I.kept (t' := tk) hk, ⟨_, rfl⟩, q⟩
  | tup hp' => rcases hp' with hp' | ⟨_, hp'⟩ <;> (rw [hp] at hp'; cases hp')
  | dic ks hp' => rcases hp' with hp' | ⟨_, hp'⟩ <;> (rw [hp] at hp'; cases hp')
end
section
variable {X : Cx}
/-- repr(x), x of any kind -/
theorem call_reprV (hg : X.A.guards = some []) (hu : X.A.units + 64 < cLine) : CallR X (.builtin "repr") (fun vs H Q => ∃ (v : V) (d : Nat) (as : List Addr) (t : Str) (c : Nat), vs = [v] ∧ Shw H [v] d as [t] c ∧ d ≤ 60 ∧ c ≤ 16000000 ∧ Q (.str t) H) := by
  intro pins s σ H xs us Q I r h
  obtain ⟨v, d, as, t, c, rfl, hs, hd, hc, q⟩ := h
  obtain ⟨u, rfl, r1⟩ := vals1 r
  have hz : sizeLine = 16777216 := sizeLine_eq
  have hcost := hs.cost
  rw [piled_cons] at hcost
  have fin : ∀ tk, EP X pins σ Q (.str t s.toks) { s with toks := tk } := fun tk => ⟨.str _, H, I.tok _, ⟨_, rfl⟩, q⟩
  cases hs with
  | non r2 =>
    cases (show u = Value.none from r1)
    cases r2
    exact PySem.P.repr_of_none (fin _)
  | bl b r2 =>
    cases (show u = Value.bool b from r1)
    cases r2
    cases b <;> exact PySem.P.repr_of_bool (fin _)
  | int i hi r2 =>
    obtain ⟨tk, rfl⟩ := r1
    cases r2
    refine PySem.P.repr_of_int ?_ (fin _)
    by_cases h0 : i.natAbs = 0
    · rw [h0]; decide
    · exact (Nat.log2_lt h0).mpr (Nat.lt_trans hi (by decide +kernel))
  | str x hx hk r2 =>
    obtain ⟨tk, rfl⟩ := r1
    cases r2
    refine PySem.P.repr_of_str (fin _) ?_
    have := StrLaws.reprText_len x hk
    omega
  | @lst _ d0 _ _ _ a ys bs ts e hp q1 hn r2 =>
    cases r2
    cases (show u = Value.ref a from r1)
    obtain ⟨_, its, n, rx, hgt⟩ := (show ObjOk X.prog X.w H s.heap a (.lst ys) from I.hok a _ hp)
    have k := q1.runs I (by omega) its rx
    refine call_repr_slot (T := "list") (idr := "list.__repr__") (by omega) ⟨_, hgt, rfl⟩ PySem.F.slot_list_repr.toG ?_
    cases its with
    | nil =>
      cases k
      exact call_list_repr_empty ⟨_, hgt, rfl⟩ hgt rfl ⟨_, _, rfl, .str _, H, I.tok _, ⟨_, rfl⟩, q⟩
    | cons y l =>
      refine call_list_reprK (g := []) hgt rfl rfl hn (by simpa using k.length_eq) (fun i z hz => k.item i z (by simpa using hz)) hg (fun b _ => Clear.nil b) ?_ (fun _ _ e => e) (fun h' u tk hk => ?_) (by omega)
      · show X.A.units + 1 + (d0 + 1) < cLine
        omega
      · exact ⟨_, _, rfl, .str _, H, I.kept (t' := tk) hk, ⟨_, rfl⟩, q⟩
  | @tup _ d0 _ _ _ a ys bs ts e hp q1 hn r2 =>
    cases r2
    cases (show u = Value.ref a from r1)
    obtain ⟨_, its, rx, ob, hgt, hcl, n, hda⟩ := (show ObjOk X.prog X.w H s.heap a (.tup ys) from rd_of I.hok hp)
    have k := q1.runs I (by omega) its rx
    refine call_repr_slot (T := "tuple") (idr := "tuple.__repr__") (by omega) ⟨_, hgt, hcl⟩ PySem.F.slot_tuple_repr ?_
    refine call_tuple_reprK (g := []) hgt hcl hda hn (by simpa using k) hg (fun b _ => Clear.nil b) ?_ (fun _ _ e => e) (fun h' u tk hk => ?_) (by omega)
    · show X.A.units + 1 + (d0 + 1) < cLine
      omega
    · exact ⟨_, _, rfl, .str _, H, I.kept (t' := tk) hk, ⟨_, rfl⟩, q⟩
  | @dic _ d0 _ _ _ a bs ts e ks hp hk q1 hn r2 =>
    cases r2
    cases (show u = Value.ref a from r1)
    obtain ⟨_, hsm, vv, rk, ob, es, ep, hgt, hex, hda, _, hpr, _⟩ := (show ObjOk X.prog X.w H s.heap a (.dK (ks.map fun p => (Sum.inr p.1, p.2))) from rd_of I.hok hp)
    refine call_repr_slot (T := "dict") (idr := "dict.__repr__") (by omega) ⟨_, hgt, hex.1⟩ PySem.F.slot_dict_repr ?_
    refine call_dict_reprK (g := []) hgt hex.1 hda hsm hn (entries ks vv es.toList _ rk hpr hk fun ws hw => q1.runs I (by omega) ws hw) hg (fun b _ => Clear.nil b) ?_ (fun _ _ e => e) (fun h' u tk hk => ?_) (by omega)
    · show X.A.units + 1 + (d0 + 1) < cLine
      omega
    · exact ⟨_, _, rfl, .str _, H, I.kept (t' := tk) hk, ⟨_, rfl⟩, q⟩
end
end RX
/-! Promises of defs that are called where nothing is being printed (guards empty). -/
namespace RX
open PySem PySem.Spec PyProof.Rows L2
/-- a def's promise, wherever it is called with nothing being printed -/
structure Ok0 (P : Program) (w : World) (K : PySem.W.Frag) (mg : PySem.Str → Option Value) (base : Heap) (k : Nat)
    (f : Addr) (fd : FuncData) (ps : List PySem.Str) (sp : Sp) : Prop where
  cnt : ∀ vs H Q E, sp vs H Q E → vs.length = ps.length
  go : ∀ (A : Around) (outer : List Env) (s : Shared) (H : Hp) (args : Args) (us : List Value) (vs : List V) (Q : VK) (E : XK),
    A.guards = some [] → Room k A → Env0 P w K mg base A outer s H → BindsTo s fd args (ps.zip us) → Vals vs us → sp vs H Q E →
    codeAny (model P w) A (.call (.ref f) args) (CR CX0 outer P w H s Q E) s
section
variable {P : Program} {w : World} {K : PySem.W.Frag} {mg : PySem.Str → Option Value} {base : Heap} {k : Nat} {f : Addr} {fd : FuncData}
theorem Ok0.mk_of {x qual : PySem.Str} {st : Stmt} {N ps : List PySem.Str} {sp : Sp} (F : Fun K x qual st f fd) (S : FnScope N ps (defScope st))
    (cnt : ∀ vs H Q E, sp vs H Q E → vs.length = ps.length)
    (body : ∀ (cdv : Value) (A : Around) (outer : List Env) (s : Shared) (H : Hp) (vs : List V) (Q : VK) (E : XK), A.guards = some [] →
      Room k (A.deeper (envOfC qual (defScope st) s.heap.objs.size f cdv)) → sp vs H Q E →
      ∃ t, PSs (cxOf CX0 P w K mg base N qual (defScope st) f cdv A outer s H E).nox (defBody st) t ∧ t { nx := fun _ H' => Q .non H', rt := Q } (start N vs) H) :
    Ok0 P w K mg base (k + 1) f fd ps sp := by
  obtain ⟨oc, od, kV, doc, pm, an, cdv, ct, osl, rfl, lk, hcd⟩ := F.ex
  refine ⟨cnt, ?_⟩
  intro A outer s H args us vs Q E hgd hr e0 hb r hsp
  have kept : ∀ b o, base.get? b = some o → s.heap.get? b = some o := fun b o e => (e0.bs b o e).1
  have KX : K.In s.heap := e0.mod.kin.keeps kept
  have par : ∀ y ∈ ps.zip us, (defScope st).names.lookup y.1 = some .local ∨
      ((defScope st).names.lookup y.1 = some .cell ∧ ((cellsFrom (s.heap.objs.size + 1) (defScope st).names []).lookup y.1).isSome = true) := by
    rintro ⟨n, v⟩ hy
    rcases S.par n (List.of_mem_zip hy).1 with q | q
    · exact .inl q
    · exact .inr ⟨q, PySem.W.cellsFrom_some _ _ _ (.inl q)⟩
  have entry := hb
  refine codeAny_call_function hr.depth (KX _ _ lk) rfl S.co S.gen rfl (PySem.W.codeRec_of KX hcd) (entry _ _ _ _ ?_)
  refine wpAny_newFunctionEnv_cells S.kind par ?_
  intro env he s1 x
  subst he
  refine ⟨(e0.mod.nolimit.keeps kept).keeps x.toInCall.keep, codeAny_func ?_⟩
  obtain ⟨t, ht, hq⟩ := body cdv A outer s H vs Q E hgd (hr.deeper _) hsp
  have I := inv_start (CX := CX0) (E := E) S hr.hd e0 (cnt _ _ _ _ hsp) r x
  have fin : ∀ {σ' : L2.St} {s' : Shared} {H' : Hp} {v : V} {u : Value},
      Inv (cxOf CX0 P w K mg base N qual (defScope st) f cdv A outer s H E) [] σ' H' s' → RelV v u → Q v H' → CE outer P w H s Q u s' := by
    intro σ' s' H' v u J rv q
    exact ⟨v, H', J.os, J.bare, J.base, J.hok, rv, q⟩
  refine wpAny_mono (ht.nox.run [] s1 (start N vs) H _ I hq) ?_ (fun e s' hs => hs)
  intro fl s' hs
  cases fl with
  | ret u => obtain ⟨v, σ', H', J, rv, q⟩ := hs; exact fin J rv q
  | next => obtain ⟨σ', H', J, q⟩ := hs; exact fin (v := V.non) (u := Value.none) J rfl q
  | brk => obtain ⟨_, _, _, q⟩ := hs; exact q.elim
  | cont => obtain ⟨_, _, _, q⟩ := hs; exact q.elim
end
section
variable {X : Cx} {k : Nat} {f : Addr} {fd : FuncData} {ps : List PySem.Str} {sp : Sp} {x : PySem.Str} {p pos : Pos} {e : Expr} {es : List Expr} {t : TA}
/-- f(..) of such a def -/
theorem pe_call00 (F : Ok0 X.prog X.w X.K X.mg X.base k f fd ps sp) (hgd : X.A.guards = some []) (hr : Room k X.A) (hg : Gl X x) (hm : X.mg x = some (.ref f)) (hk : PySem.W.keepIn X.K (.ref f) = true)
    (hb : Binds X.K fd ps []) (ha : PA X (e :: es) t) (hdb : (x == ("__debug__" : PySem.Str)) = false := by decide)
    (he : starEach (e :: es) X.env = (false, eval e X.env) :: starEach es X.env := by rfl) (hpl : (backTo pos (starEach es X.env)).any (·.1) = false := by rfl) :
    PE X (.Call (.Name x p) (e :: es) [] pos) (fun σ H Q => t σ H fun vs H1 => sp vs H1 Q E0) := by
  constructor
  intro pins s σ H Q I h
  refine wpAny_Call_Name_kw (ld_glob I hg hm ?_ hdb)
  refine PySem.W.callWith_K (h₀ := X.base) I.ok.mod.kin hk (thn (ha.run pos pins s σ H _ I h) ?_) he hpl
  rintro us s1 ⟨vs, H1, I1, r, q⟩
  refine ⟨I1.kIn, ?_⟩
  have hl : us.length = ps.length := by rw [← r.length]; exact F.cnt _ _ _ _ q
  have hb1 := hb s1 us I1.kIn (by simpa using hl)
  rw [List.append_nil] at hb1
  refine wpAny_call (codeAny_mono (F.go X.A X.stack s1 H1 ⟨us, []⟩ us vs Q E0 hgd hr I1.env0 hb1 r q) ?_)
  intro r' s' hq
  cases r' with
  | error e => exact hq.elim
  | ok fl =>
    cases fl with
    | ret u => exact I1.after hq
    | next => exact hq.elim
    | brk => exact hq.elim
    | cont => exact hq.elim
end
end RX
/-! The law's own call, from a promise that wants empty guards. -/
namespace RX
open PySem PySem.Spec PyProof.Rows L2
section
variable {P : Program} {w : World} {K : PySem.W.Frag} {mg mb : PySem.Str → Option Value} {k : Nat} {fa a : Addr} {fd : FuncData} {x : PySem.Str} {sp : Sp} {s₁ : Shared} {vs : List Value} {ns : List Int}
/-- from an abstract heap that tracks at most the script -/
theorem law_core {H : Hp} (KX : K.In s₁.heap) (hns : s₁.heap.Ns mainGlobals mg) (hb : s₁.heap.Ns builtinsNs mb) (hbb : ∀ x : PySem.Str, x ≠ "__name__" → mb x = bootBuiltins x) (hlim : s₁.heap.NoLimit) (hg : s₁.gens = #[])
    (ha : s₁.heap.get? a = some { cls := .type "list", data := .seq vs.toArray }) (hr : Room k callerA)
    (F : ∀ base : Heap, K.In base → base.Ns mainGlobals mg → Ok0 P w K mg base k fa fd [x] sp) (hbind : ∀ (s : Shared) (u : Value), BindsTo s fd ⟨[u], []⟩ [(x, u)])
    (hO : Only H) (hsp : sp [.ref a] H (fun v _ => v = .bl true) fun _ _ _ => False) (hok : HOk P w H s₁.heap) (hA : ∀ b, H b ≠ none → b = a) (hK : H a ≠ none → K.lookup a = none) :
    codeAny (model P w) callerA (.call (.ref fa) ⟨[.ref a], []⟩) (fun r s' => r = .ok (.ret (.bool true)) ∧ OldK s₁.heap s'.heap ∧ s'.os = s₁.os ∧ AllBare s'.gens) s₁ := by
  have dictFree : ∀ {b : Addr} {o : Obj} {es : Array DictEntry} {ep : Nat}, s₁.heap.get? b = some o → o.data = .dict es ep → H b = none := by
    intro b o es ep e d
    rcases Option.eq_none_or_eq_some (H b) with q | ⟨u, q⟩
    · exact q
    · have e' := hA b (by rw [q]; simp)
      rw [e', ha] at e
      cases e
      exact absurd (show Data.seq vs.toArray _ = Data.dict es ep from d) (by simp)
  have ns' : ∀ {b : Addr} {m : PySem.Str → Option Value}, s₁.heap.Ns b m → (hidT s₁.heap H).Ns b m := by
    rintro b m ⟨o, es, ep, e, d, r⟩
    exact ⟨o, es, ep, hidT_get e (dictFree e d), d, r⟩
  have kin : K.In (hidT s₁.heap H) := by
    intro b o e
    refine hidT_get (KX b o e) ?_
    rcases Option.eq_none_or_eq_some (H b) with q | ⟨u, q⟩
    · exact q
    · have e' := hA b (by rw [q]; simp)
      rw [e'] at e q
      rw [hK (by rw [q]; simp)] at e
      cases e
  obtain ⟨mc, l1, l2⟩ := hlim
  have M : Mod K mg (hidT s₁.heap H) := ⟨kin, ns' hns, ⟨mb, ns' hb, hbb⟩, ⟨mc, ns' l1, l2⟩⟩
  have e0 : Env0 P w K mg (hidT s₁.heap H) callerA [] s₁ H :=
    { frames := rfl, mod := M, bs := fun b o e => of_hidT e, bsz := Nat.le_of_eq (hidT_size _ _), funs := trivial, frf := fun b hb => (by cases hb), hok := hok, bare := .of_eq hg }
  refine codeAny_mono ((F _ kin (ns' hns)).go callerA [] s₁ H ⟨[.ref a], []⟩ [.ref a] [.ref a] _ _ rfl hr e0 (hbind s₁ (.ref a)) (.cons rfl .nil) hsp) ?_
  intro r s' h
  cases r with
  | error e => exact h.elim
  | ok fl =>
    cases fl with
    | next => exact h.elim
    | brk => exact h.elim
    | cont => exact h.elim
    | ret u =>
      obtain ⟨v, H', os, bare, un, hok', r', q⟩ := h
      obtain rfl : v = .bl true := q
      obtain rfl : u = Value.bool true := r'
      refine ⟨rfl, OldK.of_keep ?_, os, bare⟩
      intro b o e
      rcases Option.eq_none_or_eq_some (H b) with q | ⟨u, q⟩
      · exact un.keep b o e q (by intro z; cases z) (by simp)
      · rcases hO b with z | ⟨ob, xs, z⟩
        · rw [q] at z; cases z
        · have y1 := (hok b _ z).1
          have y2 := (hok' b _ (un.frzs b ob _ z)).1
          rw [e] at y1
          cases y1
          exact y2
theorem law_end (KX : K.In s₁.heap) (hns : s₁.heap.Ns mainGlobals mg) (hb : s₁.heap.Ns builtinsNs mb) (hbb : ∀ x : PySem.Str, x ≠ "__name__" → mb x = bootBuiltins x) (hlim : s₁.heap.NoLimit) (hg : s₁.gens = #[])
    (ha : s₁.heap.get? a = some { cls := .type "list", data := .seq vs.toArray }) (hi : IntsAre vs ns) (hl : ns.length ≤ sizeLine) (hr : Room k callerA)
    (F : ∀ base : Heap, K.In base → base.Ns mainGlobals mg → Ok0 P w K mg base k fa fd [x] sp) (hbind : ∀ (s : Shared) (u : Value), BindsTo s fd ⟨[u], []⟩ [(x, u)])
    (hsp : ∀ H : Hp, Only H → SqL K H a (ns.map V.int) → sp [.ref a] H (fun v _ => v = .bl true) fun _ _ _ => False) :
    codeAny (model P w) callerA (.call (.ref fa) ⟨[.ref a], []⟩) (fun r s' => r = .ok (.ret (.bool true)) ∧ OldK s₁.heap s'.heap ∧ s'.os = s₁.os ∧ AllBare s'.gens) s₁ := by
  have rv := vals_ints hi
  rcases Option.eq_none_or_eq_some (K.lookup a) with hk | ⟨o, hk⟩
  · let ob : Obj := { cls := .type "list", data := .seq vs.toArray }
    let H : Hp := fun b => if b = a then some (.frz ob (.lst (ns.map V.int))) else none
    have at_ : ∀ b, b = a → H b = some (.frz ob (.lst (ns.map V.int))) := fun b e => if_pos e
    have off : ∀ b, b ≠ a → H b = none := fun b e => if_neg e
    refine law_core (H := H) KX hns hb hbb hlim hg ha hr F hbind ?_ (hsp H ?_ (.inl (.inr ⟨ob, at_ a rfl⟩))) ?_ ?_ (fun _ => hk)
    · intro b
      by_cases e : b = a
      · exact .inr ⟨_, _, at_ b e⟩
      · exact .inl (off b e)
    · intro b
      by_cases e : b = a
      · exact .inr ⟨_, _, at_ b e⟩
      · exact .inl (off b e)
    · intro b u z
      by_cases e : b = a
      · rw [at_ b e] at z
        cases z
        subst e
        exact ⟨ha, by rw [List.length_map]; exact hl, vs, _, rv, ha⟩
      · rw [off b e] at z
        cases z
    · intro b z
      by_cases e : b = a
      · exact e
      · exact absurd (off b e) z
  · have e := KX a o hk
    rw [ha] at e
    cases e
    have lv : vs.length ≤ sizeLine := by rw [hi.length]; exact hl
    refine law_core (H := fun _ => none) KX hns hb hbb hlim hg ha hr F hbind (fun _ => .inl rfl) (hsp _ (fun _ => .inl rfl) (.inr ⟨_, vs.toArray, _, hk, rfl, rfl, rfl, by simpa using lv, by simpa using rv⟩)) ?_ (fun b z => absurd rfl z) (fun z => absurd rfl z)
    intro b u z
    cases z
end
/-- the end of a law whose promise wants empty guards -/
theorem walk_of0 {l : PySem.W.OpenLaw} {n k : Nat} {q : Program} {loose : List PySem.Str} {XP : (PySem.Str → Option Value) → Heap → Prop} {YP : World → Heap → Prop} {d : DefRec} {K : Params → PySem.W.Frag} {sp : PySem.W.Frag → Sp} {x : PySem.Str}
    (hn : l.most = some n) (hn2 : n ≤ sizeLine) (hdf : d.params.defaults = []) (hr : Room k callerA) (hY : ∀ (w : World) (h : Heap), YP w h → (K w.params).In h)
    (F : ∀ (w : World) (mg : PySem.Str → Option Value) (fa : Addr) (h : Heap), (K w.params).In h → h.Ns mainGlobals mg → mg d.name = some (.ref fa) →
      ∃ fd : FuncData, (∀ (s : Shared) (u : Value), BindsTo s fd ⟨[u], []⟩ [(x, u)]) ∧ ∀ base : Heap, (K w.params).In base → base.Ns mainGlobals mg → Ok0 l.prog w (K w.params) mg base k fa fd [x] (sp (K w.params)))
    (hsp : ∀ (K : PySem.W.Frag) (H : Hp) (a : Addr) (ns : List Int), ns.length ≤ n → Only H → SqL K H a (ns.map V.int) → sp K [.ref a] H (fun v _ => v = .bl true) fun _ _ _ => False) :
    PySem.W.WalkO q loose XP YP l.row.toRowW d [] (fun f vs => PySem.call f vs) := by
  refine Att.attach_call hn hdf ?_
  intro w s₀ s₁ mg mb fa o pm cd doc a vs ns G Y ho hd hcd hmg hobj hints hlen hg
  obtain ⟨fd, hb, hF⟩ := F w mg fa _ (hY w _ Y) G.T.g hmg
  exact law_end (hY w _ Y) G.T.g G.T.b G.T.builtins G.T.nolimit hg hobj hints (Nat.le_trans hlen hn2) hr hF hb (fun H hO hS => hsp _ H a ns hlen hO hS)
end RX
/-! == of nested lists, tuples, dicts; two values alike. -/
namespace RX
open PySem PySem.Spec PyProof.Rows L2
/-- two lists of equal items; two dicts of the same keys, their values equal (a dict may be locked) -/
def EqR (K : PySem.W.Frag) (H : Hp) (E : V → V → Prop) (x y : V) : Prop :=
  (∃ a b xs ys, x = .ref a ∧ y = .ref b ∧ SqL K H a xs ∧ SqL K H b ys ∧ Paired E xs ys) ∨
    ∃ a b ks ls, x = .ref a ∧ y = .ref b ∧ Rd H a (.dK ks) ∧ Rd H b (.dK ls) ∧ ks.length = ls.length ∧ ∀ p ∈ ks, ∃ u, valV ls p.1 = some u ∧ E p.2 u
def EqT (K : PySem.W.Frag) (H : Hp) (F : V → V → Prop) (x y : V) : Prop := ∃ (a b : Addr) (xs ys : List V), x = .ref a ∧ y = .ref b ∧ SqT K H a xs ∧ SqT K H b ys ∧ Paired F xs ys
def EqW (K : PySem.W.Frag) (H : Hp) : Nat → V → V → Prop
  | 0 => fun _ _ => False
  | n + 1 => fun x y => (x = y ∧ flatB x = true) ∨ (∃ a, x = .ref a ∧ y = .ref a) ∨ RX.EqR K H (EqW K H n) x y ∨ EqT K H (EqW K H n) x y
section
variable {X : Cx} {pins : List (Addr × Obj)} {σ : L2.St} {H : Hp} {s : Shared}
theorem eqR_run (I : Inv X pins σ H s) {A : Around} {F : V → V → Prop} (hu : A.units < cLine) (ih : ∀ x y v u, F x y → RelV x v → RelV y u → SeqAt.EqP X.prog X.w A.in1 s v u true) {x y : V} {v u : Value} (h : RX.EqR X.K H F x y) (rx : RelV x v) (ry : RelV y u)
    (E Q : Value → Shared → Prop) (q : Q (.bool true) s) : wpAny (model X.prog X.w) A (richCompare .Eq v u) Q E s := by
  rcases h with h | ⟨a, b, ks, ls, rfl, rfl, ha, hb, hl, hp⟩
  · exact L2.eqR_run I hu ih (.inl h) rx ry E Q q
  · cases (show v = Value.ref a from rx)
    cases (show u = Value.ref b from ry)
    obtain ⟨_, ya, va, ra, da⟩ := (show ObjOk X.prog X.w H s.heap a (.dK ks) from rd_of I.hok ha)
    obtain ⟨_, yb, vb, rb, db⟩ := (show ObjOk X.prog X.w H s.heap b (.dK ls) from rd_of I.hok hb)
    refine PySem.W.rcP_dicts (knd := mixKind X.prog X.w) (r := true) ya yb da db hu (fun _ => hits_run ih rb ra hp) E Q ?_
    have e : va.length = vb.length := by rw [← ra.length, ← rb.length]; exact hl
    rw [show (va.length == vb.length && true) = true from by rw [e]; simp]
    exact q
theorem eqT_run (I : Inv X pins σ H s) {A : Around} {F : V → V → Prop} (hu : A.units < cLine) (ih : ∀ x y v u, F x y → RelV x v → RelV y u → SeqAt.EqP X.prog X.w A.in1 s v u true) {x y : V} {v u : Value} (h : EqT X.K H F x y) (rx : RelV x v) (ry : RelV y u)
    (E Q : Value → Shared → Prop) (q : Q (.bool true) s) : wpAny (model X.prog X.w) A (richCompare .Eq v u) Q E s := by
  obtain ⟨a, b, xs, ys, rfl, rfl, ha, hb, hp⟩ := h
  cases (show v = Value.ref a from rx); cases (show u = Value.ref b from ry)
  obtain ⟨us, r1, p1, _⟩ := I.tuple ha
  obtain ⟨ws, r2, p2, _⟩ := I.tuple hb
  have hsz : us.length = ws.length := by rw [← r1.length, ← r2.length]; exact Paired.length hp
  refine SeqAt.rcIn_tuples (e := fun _ => true) p1 p2 hu (fun j h1 h2 => ?_) ?_
  · have k := items_run ih hp r1 r2 j (by simpa using h1) (by simpa using h2)
    have k2 : SeqAt.EqIn X.prog X.w A.in1 s us[j] ws[j] true := k
    simpa using k2
  · have e : ((List.range (min us.toArray.size ws.toArray.size)).all (fun _ => true) && us.toArray.size == ws.toArray.size) = true := by
      rw [List.size_toArray, List.size_toArray, hsz]
      simp
    rw [e]
    exact q
theorem eqRT_run (I : Inv X pins σ H s) {A : Around} {F : V → V → Prop} (hu : A.units < cLine) (ih : ∀ x y v u, F x y → RelV x v → RelV y u → SeqAt.EqP X.prog X.w A.in1 s v u true) {x y : V} {v u : Value} (h : RX.EqR X.K H F x y ∨ EqT X.K H F x y) (rx : RelV x v) (ry : RelV y u)
    (E Q : Value → Shared → Prop) (q : Q (.bool true) s) : wpAny (model X.prog X.w) A (richCompare .Eq v u) Q E s :=
  h.elim (fun h => RX.eqR_run I hu ih h rx ry E Q q) fun h => eqT_run I hu ih h rx ry E Q q
theorem eqW_run (I : Inv X pins σ H s) : ∀ (n : Nat) (A : Around), A.units + n < cLine → ∀ (x y : V) (v u : Value), EqW X.K H n x y → RelV x v → RelV y u → SeqAt.EqP X.prog X.w A s v u true
  | 0, _, _, _, _, _, _, h, _, _ => (show False from h).elim
  | n + 1, A, hu, x, y, v, u, h, rx, ry => by
    rcases h with ⟨rfl, f⟩ | ⟨a, rfl, rfl⟩ | h
    · exact (eqAt_same rx ry f).eqP
    · cases (show v = Value.ref a from rx); cases (show u = Value.ref a from ry)
      exact (SeqAt.EqAt.same _).eqP
    · have step := eqRT_run I (A := A) (by omega) (eqW_run I n A.in1 (by show A.units + 1 + n < cLine; omega)) h rx ry
      obtain ⟨a, b, rfl, rfl⟩ : ∃ a b, x = .ref a ∧ y = .ref b := by
        rcases h with (⟨a, b, _, _, e1, e2, _⟩ | ⟨a, b, _, _, e1, e2, _⟩) | ⟨a, b, _, _, e1, e2, _⟩ <;> exact ⟨a, b, e1, e2⟩
      cases (show v = Value.ref a from rx); cases (show u = Value.ref b from ry)
      by_cases e : a = b
      · subst e
        exact (SeqAt.EqAt.same _).eqP
      · exact SeqAt.eqP_refs e step
theorem op_eqW (hu : X.A.units + 64 < cLine) : OpR X (compareOp .Eq) (fun x y H Q => ∃ n, n ≤ 60 ∧ (RX.EqR X.K H (EqW X.K H n) x y ∨ EqT X.K H (EqW X.K H n) x y) ∧ Q (.bl true) H) := by
  intro pins s σ H x y v u Q I rx ry h
  obtain ⟨n, hn, h, q⟩ := h
  exact eqRT_run I (A := X.A) (by omega) (eqW_run I n X.A.in1 (by show X.A.units + 1 + n < cLine; omega)) h rx ry _ _ ⟨.bl true, H, I, rfl, q⟩
end
theorem EqW.flat {K : PySem.W.Frag} {H : Hp} {n : Nat} {x : V} (h : flatB x = true) : EqW K H (n + 1) x x := .inl ⟨rfl, h⟩
theorem EqW.same {K : PySem.W.Frag} {H : Hp} {n : Nat} {a : Addr} : EqW K H (n + 1) (.ref a) (.ref a) := .inr (.inl ⟨a, rfl, rfl⟩)
end RX
/-! Data, and what stands for it on an abstract heap: it prints and compares as the data do. -/
namespace RX
open PySem PySem.Spec PyProof.Rows L2
/-- plain data: dicts with texts as keys -/
inductive Dt where
  | non
  | bl (b : Bool)
  | int (i : Int)
  | str (x : PySem.Str)
  | lst (ds : List Dt)
  | tup (ds : List Dt)
  /-- a tuple whose object is known: it has no __dict__ -/
  | fup (ds : List Dt)
  | dic (ks : List PySem.Str) (ds : List Dt)
namespace Dt
mutual
def sh : Dt → PySem.Str
  | .non => "None"
  | .bl b => (if b then "True" else "False" : String)
  | .int i => toString i
  | .str x => reprText x
  | .lst ds => listText (shAll ds)
  | .tup ds => tupleText (shAll ds)
  | .fup ds => tupleText (shAll ds)
  | .dic ks ds => dictText (List.zipWith (fun k u => reprText k ++ ": " ++ u) ks (shAll ds))
def shAll : List Dt → List PySem.Str
  | [] => []
  | d :: ds => sh d :: shAll ds
end
mutual
def sz : Dt → Nat
  | .non => 1
  | .bl _ => 1
  | .int _ => 1
  | .str _ => 1
  | .lst ds => szAll ds + 1
  | .tup ds => szAll ds + 1
  | .fup ds => szAll ds + 1
  | .dic _ ds => szAll ds + 1
def szAll : List Dt → Nat
  | [] => 0
  | d :: ds => sz d + szAll ds
end
mutual
def dep : Dt → Nat
  | .non => 0
  | .bl _ => 0
  | .int _ => 0
  | .str _ => 0
  | .lst ds => depAll ds + 1
  | .tup ds => depAll ds + 1
  | .fup ds => depAll ds + 1
  | .dic _ ds => depAll ds + 1
def depAll : List Dt → Nat
  | [] => 0
  | d :: ds => max (dep d) (depAll ds)
end
mutual
def cost : Dt → Nat
  | .non => 10
  | .bl _ => 10
  | .int _ => 70
  | .str x => 10 * x.length + 10
  | .lst ds => 10 + costAll ds
  | .tup ds => 10 + costAll ds
  | .fup ds => 10 + costAll ds
  | .dic ks ds => 10 + (ks.map fun k => 10 * k.length + 20).sum + costAll ds
def costAll : List Dt → Nat
  | [] => 0
  | d :: ds => cost d + costAll ds
end
end Dt
/-- a text that prints -/
def Sg (x : PySem.Str) : Prop := x.length ≤ 1000000 ∧ ∀ k ∈ x.cps.toList, k < 16 ^ 8
mutual
inductive Fine : Dt → Prop
  | non : Fine .non
  | bl (b : Bool) : Fine (.bl b)
  | int (i : Int) (h : i.natAbs < 10 ^ 60) : Fine (.int i)
  | str (x : PySem.Str) (h : Sg x) : Fine (.str x)
  | lst {ds : List Dt} (h : FineAll ds) : Fine (.lst ds)
  | tup {ds : List Dt} (h : FineAll ds) : Fine (.tup ds)
  | fup {ds : List Dt} (h : FineAll ds) : Fine (.fup ds)
  | dic {ks : List PySem.Str} {ds : List Dt} (hk : ∀ k ∈ ks, Sg k) (h : FineAll ds) : Fine (.dic ks ds)
inductive FineAll : List Dt → Prop
  | nil : FineAll []
  | cons {d : Dt} {ds : List Dt} (h : Fine d) (t : FineAll ds) : FineAll (d :: ds)
end
def kk (ks : List (PySem.Str × V)) : List (L2.Key × V) := ks.map fun p => (Sum.inr p.1, p.2)
mutual
/-- v stands for the data; no list and no dict of it is at b -/
inductive Rp (b : Addr) (H : Hp) : V → Dt → Prop
  | non : Rp b H .non .non
  | bl (c : Bool) : Rp b H (.bl c) (.bl c)
  | int (i : Int) : Rp b H (.int i) (.int i)
  | str (x : PySem.Str) : Rp b H (.str x) (.str x)
  | lst {a : Addr} {xs : List V} {ds : List Dt} (n : a ≠ b) (h : H a = some (.lst xs)) (k : RpAll b H xs ds) : Rp b H (.ref a) (.lst ds)
  | tup {a : Addr} {xs : List V} {ds : List Dt} (h : H a = some (.tup xs)) (k : RpAll b H xs ds) : Rp b H (.ref a) (.tup ds)
  | fup {a : Addr} {o : Obj} {xs : List V} {ds : List Dt} (h : H a = some (.frz o (.tup xs))) (e : o.dict = none) (k : RpAll b H xs ds) : Rp b H (.ref a) (.fup ds)
  | dic {a : Addr} {ks : List (PySem.Str × V)} {ds : List Dt} (n : a ≠ b) (h : Rd H a (.dK (kk ks))) (nd : (ks.map (·.1)).Nodup) (k : RpAll b H (ks.map (·.2)) ds) : Rp b H (.ref a) (.dic (ks.map (·.1)) ds)
inductive RpAll (b : Addr) (H : Hp) : List V → List Dt → Prop
  | nil : RpAll b H [] []
  | cons {v : V} {vs : List V} {d : Dt} {ds : List Dt} (h : Rp b H v d) (t : RpAll b H vs ds) : RpAll b H (v :: vs) (d :: ds)
end
theorem kk_inj {ks ls : List (PySem.Str × V)} (h : kk ks = kk ls) : ks = ls := by
  induction ks generalizing ls with
  | nil => cases ls with
    | nil => rfl
    | cons q ls => cases h
  | cons p ks ih => cases ls with
    | nil => cases h
    | cons q ls =>
      have h' : (Sum.inr p.1, p.2) :: kk ks = (Sum.inr q.1, q.2) :: kk ls := h
      injection h' with h1 h2
      injection h1 with h3 h4
      injection h3 with h3
      rw [ih h2, Prod.ext h3 h4]
section
variable {b : Addr} {H H' : Hp}
theorem RpAll.len {vs : List V} : ∀ {ds : List Dt}, RpAll b H vs ds → vs.length = ds.length := by
  intro ds h
  induction vs generalizing ds with
  | nil => cases h; rfl
  | cons v vs ih =>
    cases h with
    | cons h t => rw [List.length_cons, List.length_cons, ih t]
theorem rd_dic {a : Addr} {ks ls : List (PySem.Str × V)} (h : Rd H a (.dK (kk ks))) (h2 : Rd H a (.dK (kk ls))) : ks = ls := by
  rcases h with h | ⟨o, h⟩
  · rcases h2 with h2 | ⟨o2, h2⟩
    · rw [h] at h2; exact kk_inj (HO.dK.inj (Option.some.inj h2))
    · rw [h] at h2; cases h2
  · rcases h2 with h2 | ⟨o2, h2⟩
    · rw [h] at h2; cases h2
    · rw [h] at h2
      have h3 := HO.frz.inj (Option.some.inj h2)
      exact kk_inj (HO.dK.inj h3.2)
theorem rd_not {a : Addr} {u v : HO} (h : Rd H a u) (h2 : H a = some v) (n : ∀ o, v ≠ .frz o u) (d : u ≠ v) : False := by
  rcases h with h | ⟨o, h⟩
  · rw [h] at h2; exact d (Option.some.inj h2)
  · rw [h] at h2; exact n o (Option.some.inj h2).symm
mutual
theorem Rp.fn : ∀ (d d' : Dt) (v : V), Rp b H v d → Rp b H v d' → d = d'
  | .non, d', v, h, h' => by cases h; cases h'; rfl
  | .bl c, d', v, h, h' => by cases h; cases h'; rfl
  | .int i, d', v, h, h' => by cases h; cases h'; rfl
  | .str x, d', v, h, h' => by cases h; cases h'; rfl
  | .lst ds, d', v, h, h' => by
    cases h with
    | lst n h k =>
      cases h' with
      | lst n2 h2 k2 =>
        rw [h] at h2
        cases h2
        rw [RpAll.fn ds _ _ k k2]
      | tup h2 k2 => rw [h] at h2; cases h2
      | fup h2 _ k2 => rw [h] at h2; cases h2
      | dic n2 h2 _ k2 => exact (rd_not h2 h (fun _ z => nomatch z) (fun z => nomatch z)).elim
  | .fup ds, d', v, h, h' => by
    cases h with
    | fup h _ k =>
      cases h' with
      | lst n2 h2 k2 => rw [h] at h2; cases h2
      | tup h2 k2 => rw [h] at h2; cases h2
      | fup h2 _ k2 =>
        rw [h] at h2
        cases h2
        rw [RpAll.fn ds _ _ k k2]
      | dic n2 h2 _ k2 => rcases h2 with h2 | ⟨_, h2⟩ <;> (rw [h] at h2; cases h2)
  | .tup ds, d', v, h, h' => by
    cases h with
    | tup h k =>
      cases h' with
      | lst n2 h2 k2 => rw [h] at h2; cases h2
      | tup h2 k2 =>
        rw [h] at h2
        cases h2
        rw [RpAll.fn ds _ _ k k2]
      | fup h2 _ k2 => rw [h] at h2; cases h2
      | dic n2 h2 _ k2 => exact (rd_not h2 h (fun _ z => nomatch z) (fun z => nomatch z)).elim
  | .dic ks ds, d', v, h, h' => by
    cases h with
    | dic n h nd k =>
      cases h' with
      | lst n2 h2 k2 => exact (rd_not h h2 (fun _ z => nomatch z) (fun z => nomatch z)).elim
      | tup h2 k2 => exact (rd_not h h2 (fun _ z => nomatch z) (fun z => nomatch z)).elim
      | fup h2 _ k2 => rcases h with h | ⟨_, h⟩ <;> (rw [h2] at h; cases h)
      | dic n2 h2 _ k2 =>
        have e := rd_dic h h2
        subst e
        rw [RpAll.fn ds _ _ k k2]
theorem RpAll.fn : ∀ (ds ds' : List Dt) (vs : List V), RpAll b H vs ds → RpAll b H vs ds' → ds = ds'
  | [], ds', vs, h, h' => by cases h; cases h'; rfl
  | d :: ds, ds', vs, h, h' => by
    cases h with
    | cons h t =>
      cases h' with
      | cons h2 t2 => rw [Rp.fn d _ _ h h2, RpAll.fn ds _ _ t t2]
end
/-- what is kept where lists, tuples and dicts stand -/
def Kp (b : Addr) (H H' : Hp) : Prop := ∀ a o, H a = some o → (∀ xs, o = .lst xs → a ≠ b) → (∀ xs, o = .dK xs → a ≠ b) → H' a = some o
mutual
theorem Rp.kp (k : Kp b H H') : ∀ (d : Dt) (v : V), Rp b H v d → Rp b H' v d
  | .non, v, h => by cases h; exact .non
  | .bl c, v, h => by cases h; exact .bl c
  | .int i, v, h => by cases h; exact .int i
  | .str x, v, h => by cases h; exact .str x
  | .lst ds, v, h => by
    cases h with
    | lst n h t => exact .lst n (k _ _ h (fun _ _ => n) (fun _ _ => n)) (RpAll.kp k ds _ t)
  | .tup ds, v, h => by
    cases h with
    | tup h t => exact .tup (k _ _ h (fun _ e => nomatch e) (fun _ e => nomatch e)) (RpAll.kp k ds _ t)
  | .fup ds, v, h => by
    cases h with
    | fup h e t => exact .fup (k _ _ h (fun _ e => nomatch e) (fun _ e => nomatch e)) e (RpAll.kp k ds _ t)
  | .dic ks ds, v, h => by
    cases h with
    | dic n h nd t => exact .dic n (h.elim (fun h => .inl (k _ _ h (fun _ _ => n) (fun _ _ => n))) fun ⟨o, h⟩ => .inr ⟨o, k _ _ h (fun _ z => nomatch z) (fun _ z => nomatch z)⟩) nd (RpAll.kp k ds _ t)
theorem RpAll.kp (k : Kp b H H') : ∀ (ds : List Dt) (vs : List V), RpAll b H vs ds → RpAll b H' vs ds
  | [], vs, h => by cases h; exact .nil
  | d :: ds, vs, h => by
    cases h with
    | cons h t => exact .cons (Rp.kp k d _ h) (RpAll.kp k ds _ t)
end
theorem Rp.same {v : V} {d : Dt} (h : Rp b H v d) (s : Same H H') : Rp b H' v d := Rp.kp (fun a o e _ _ => s a o e) d v h
theorem RpAll.same {vs : List V} {ds : List Dt} (h : RpAll b H vs ds) (s : Same H H') : RpAll b H' vs ds := RpAll.kp (fun a o e _ _ => s a o e) ds vs h
theorem Rp.sz_pos : ∀ d : Dt, 1 ≤ d.sz
  | .non => Nat.le_refl _
  | .bl _ => Nat.le_refl _
  | .int _ => Nat.le_refl _
  | .str _ => Nat.le_refl _
  | .lst ds => by show 1 ≤ Dt.szAll ds + 1; omega
  | .tup ds => by show 1 ≤ Dt.szAll ds + 1; omega
  | .fup ds => by show 1 ≤ Dt.szAll ds + 1; omega
  | .dic _ ds => by show 1 ≤ Dt.szAll ds + 1; omega
theorem kc_keys (ks : List (PySem.Str × V)) : kc ks = ((ks.map (·.1)).map fun k => 10 * k.length + 20).sum := by
  unfold kc
  rw [List.map_map]
  rfl
theorem zip_keys : ∀ (ks : List (PySem.Str × V)) (us : List PySem.Str), List.zipWith (fun p u => reprText p.1 ++ ": " ++ u) ks us = List.zipWith (fun k u => reprText k ++ ": " ++ u) (ks.map (·.1)) us
  | [], us => by simp
  | p :: ks, [] => by simp
  | p :: ks, u :: us => by rw [List.zipWith_cons_cons, List.map_cons, List.zipWith_cons_cons, zip_keys ks us]
mutual
theorem Rp.shw : ∀ (d : Dt) (v : V), Rp b H v d → Fine d → ∃ as, Shw H [v] d.dep as [d.sh] d.cost ∧ ∀ a ∈ as, ∃ d', Rp b H (.ref a) d' ∧ d'.sz ≤ d.sz
  | .non, v, h, _ => by cases h; exact ⟨_, .non .nil, fun a ha => by cases ha⟩
  | .bl c, v, h, _ => by cases h; exact ⟨_, .bl c .nil, fun a ha => by cases ha⟩
  | .int i, v, h, f => by
    cases h
    cases f with
    | int _ hi => exact ⟨_, .int i hi .nil, fun a ha => by cases ha⟩
  | .str x, v, h, f => by
    cases h
    cases f with
    | str _ hx => exact ⟨_, .str x hx.1 hx.2 .nil, fun a ha => by cases ha⟩
  | .lst ds, v, h, f => by
    cases f with
    | lst f =>
      cases h with
      | @lst a xs _ n h k =>
        obtain ⟨as, s, m⟩ := RpAll.shw ds _ k f
        have z : a ∉ as := fun ha => by
          obtain ⟨d', r, l⟩ := m a ha
          have e := Rp.fn _ _ _ r (.lst n h k)
          rw [e] at l
          have : Dt.szAll ds + 1 ≤ Dt.szAll ds := l
          omega
        refine ⟨_, .lst h s z .nil, fun x hx => ?_⟩
        rw [List.append_nil] at hx
        rcases List.mem_cons.mp hx with e | hx
        · rw [e]; exact ⟨_, .lst n h k, Nat.le_refl _⟩
        · obtain ⟨d', r, l⟩ := m x hx
          exact ⟨d', r, Nat.le_succ_of_le l⟩
  | .tup ds, v, h, f => by
    cases f with
    | tup f =>
      cases h with
      | @tup a xs _ h k =>
        obtain ⟨as, s, m⟩ := RpAll.shw ds _ k f
        have z : a ∉ as := fun ha => by
          obtain ⟨d', r, l⟩ := m a ha
          have e := Rp.fn _ _ _ r (.tup h k)
          rw [e] at l
          have : Dt.szAll ds + 1 ≤ Dt.szAll ds := l
          omega
        refine ⟨_, .tup (.inl h) s z .nil, fun x hx => ?_⟩
        rw [List.append_nil] at hx
        rcases List.mem_cons.mp hx with e | hx
        · rw [e]; exact ⟨_, .tup h k, Nat.le_refl _⟩
        · obtain ⟨d', r, l⟩ := m x hx
          exact ⟨d', r, Nat.le_succ_of_le l⟩
  | .fup ds, v, h, f => by
    cases f with
    | fup f =>
      cases h with
      | @fup a o xs _ h e0 k =>
        obtain ⟨as, s, m⟩ := RpAll.shw ds _ k f
        have z : a ∉ as := fun ha => by
          obtain ⟨d', r, l⟩ := m a ha
          have e := Rp.fn _ _ _ r (.fup h e0 k)
          rw [e] at l
          have : Dt.szAll ds + 1 ≤ Dt.szAll ds := l
          omega
        refine ⟨_, .tup (.inr ⟨_, h⟩) s z .nil, fun x hx => ?_⟩
        rw [List.append_nil] at hx
        rcases List.mem_cons.mp hx with e | hx
        · rw [e]; exact ⟨_, .fup h e0 k, Nat.le_refl _⟩
        · obtain ⟨d', r, l⟩ := m x hx
          exact ⟨d', r, Nat.le_succ_of_le l⟩
  | .dic ks ds, v, h, f => by
    cases f with
    | dic fk f =>
      cases h with
      | @dic a kv _ n h nd k =>
        obtain ⟨as, s, m⟩ := RpAll.shw ds _ k f
        have z : a ∉ as := fun ha => by
          obtain ⟨d', r, l⟩ := m a ha
          have e := Rp.fn _ _ _ r (.dic n h nd k)
          rw [e] at l
          have : Dt.szAll ds + 1 ≤ Dt.szAll ds := l
          omega
        have y := Shw.dic (as := []) (ts := []) (c := 0) kv h (fun p hp => fk p.1 (List.mem_map_of_mem hp)) s z .nil
        rw [zip_keys, kc_keys] at y
        refine ⟨_, y, fun x hx => ?_⟩
        rw [List.append_nil] at hx
        rcases List.mem_cons.mp hx with e | hx
        · rw [e]; exact ⟨_, .dic n h nd k, Nat.le_refl _⟩
        · obtain ⟨d', r, l⟩ := m x hx
          exact ⟨d', r, Nat.le_succ_of_le l⟩
theorem RpAll.shw : ∀ (ds : List Dt) (vs : List V), RpAll b H vs ds → FineAll ds → ∃ as, Shw H vs (Dt.depAll ds) as (Dt.shAll ds) (Dt.costAll ds) ∧ ∀ a ∈ as, ∃ d', Rp b H (.ref a) d' ∧ d'.sz ≤ Dt.szAll ds
  | [], vs, h, _ => by cases h; exact ⟨_, .nil, fun a ha => by cases ha⟩
  | d :: ds, vs, h, f => by
    cases f with
    | cons f1 f2 =>
      cases h with
      | cons h t =>
        obtain ⟨as, s1, m1⟩ := Rp.shw d _ h f1
        obtain ⟨bs, s2, m2⟩ := RpAll.shw ds _ t f2
        refine ⟨_, Shw.cons1 (s1.up (Nat.le_max_left _ _)) (s2.up (Nat.le_max_right _ _)), fun x hx => ?_⟩
        rcases List.mem_append.mp hx with hx | hx
        · obtain ⟨d', r, l⟩ := m1 x hx
          exact ⟨d', r, Nat.le_trans l (Nat.le_add_right _ _)⟩
        · obtain ⟨d', r, l⟩ := m2 x hx
          exact ⟨d', r, Nat.le_trans l (Nat.le_add_left _ _)⟩
end
end
theorem val_kk (ks : List (PySem.Str × V)) (x : PySem.Str) : valV (kk ks) (Sum.inr x) = valV ks x := by
  induction ks with
  | nil => rfl
  | cons p ks ih =>
    by_cases e : p.1 = x
    · rw [valV_pos e]
      exact valV_pos (p := ((Sum.inr p.1 : L2.Key), p.2)) (by rw [e])
    · rw [valV_neg e, ← ih]
      exact valV_neg (p := ((Sum.inr p.1 : L2.Key), p.2)) (fun z => e (Sum.inr.inj z))
theorem val_mem {ks : List (PySem.Str × V)} (nd : (ks.map (·.1)).Nodup) {p : PySem.Str × V} (h : p ∈ ks) : valV ks p.1 = some p.2 := by
  induction ks with
  | nil => cases h
  | cons q ks ih =>
    rw [List.map_cons] at nd
    obtain ⟨n1, n2⟩ := List.nodup_cons.mp nd
    rcases List.mem_cons.mp h with e | e
    · rw [e]; exact valV_pos rfl
    · have : ¬ q.1 = p.1 := fun z => n1 (by rw [z]; exact List.mem_map_of_mem e)
      rw [valV_neg this]
      exact ih n2 e
theorem mem_val {ks : List (PySem.Str × V)} {x : PySem.Str} {v : V} (h : valV ks x = some v) : (x, v) ∈ ks := by
  induction ks with
  | nil => cases h
  | cons q ks ih =>
    by_cases e : q.1 = x
    · rw [valV_pos e] at h
      cases h
      rw [← e]; exact List.mem_cons_self
    · rw [valV_neg e] at h
      exact List.mem_cons_of_mem _ (ih h)
theorem kk_len (ks : List (PySem.Str × V)) : (kk ks).length = ks.length := by unfold kk; rw [List.length_map]
section
variable {K : PySem.W.Frag} {b : Addr} {H : Hp}
/-- the values of two dicts with the same keys -/
theorem dic_at {F : V → V → Prop} : ∀ (ks ls : List (PySem.Str × V)), ks.map (·.1) = ls.map (·.1) → Paired F (ks.map (·.2)) (ls.map (·.2)) → ∀ p ∈ ks, ∃ v, (p.1, v) ∈ ls ∧ F p.2 v
  | [], _, _, _, p, hp => by cases hp
  | q :: ks, [], h, _, _, _ => by cases h
  | q :: ks, r :: ls, h, hp, p, m => by
    rw [List.map_cons, List.map_cons] at h hp
    injection h with h1 h2
    cases hp with
    | cons a t =>
      rcases List.mem_cons.mp m with e | m
      · rw [e]
        exact ⟨r.2, by rw [h1]; exact List.mem_cons_self, a⟩
      · obtain ⟨v, h3, h4⟩ := dic_at ks ls h2 t p m
        exact ⟨v, List.mem_cons_of_mem _ h3, h4⟩
mutual
theorem Rp.eqw : ∀ (d : Dt) (n : Nat) (x y : V), d.dep < n → Rp b H x d → Rp b H y d → EqW K H n x y
  | .non, n + 1, x, y, _, h1, h2 => by cases h1; cases h2; exact EqW.flat rfl
  | .bl c, n + 1, x, y, _, h1, h2 => by cases h1; cases h2; exact EqW.flat rfl
  | .int i, n + 1, x, y, _, h1, h2 => by cases h1; cases h2; exact EqW.flat rfl
  | .str t, n + 1, x, y, _, h1, h2 => by cases h1; cases h2; exact EqW.flat rfl
  | .lst ds, n + 1, x, y, l, h1, h2 => by
    have l' : Dt.depAll ds + 1 < n + 1 := l
    cases h1 with
    | lst n1 a1 k1 =>
      cases h2 with
      | lst n2 a2 k2 => exact .inr (.inr (.inl (.inl ⟨_, _, _, _, rfl, rfl, .inl (.inl a1), .inl (.inl a2), RpAll.eqw ds n _ _ (by omega) k1 k2⟩)))
  | .tup ds, n + 1, x, y, l, h1, h2 => by
    have l' : Dt.depAll ds + 1 < n + 1 := l
    cases h1 with
    | tup a1 k1 =>
      cases h2 with
      | tup a2 k2 => exact .inr (.inr (.inr ⟨_, _, _, _, rfl, rfl, .inl (.inl a1), .inl (.inl a2), RpAll.eqw ds n _ _ (by omega) k1 k2⟩))
  | .fup ds, n + 1, x, y, l, h1, h2 => by
    have l' : Dt.depAll ds + 1 < n + 1 := l
    cases h1 with
    | fup a1 _ k1 =>
      cases h2 with
      | fup a2 _ k2 => exact .inr (.inr (.inr ⟨_, _, _, _, rfl, rfl, .inl (.inr ⟨_, a1⟩), .inl (.inr ⟨_, a2⟩), RpAll.eqw ds n _ _ (by omega) k1 k2⟩))
  | .dic ks ds, n + 1, x, y, l, h1, h2 => by
    have l' : Dt.depAll ds + 1 < n + 1 := l
    generalize ek : ks = ks' at h2
    cases h1 with
    | @dic a kv _ n1 a1 d1 k1 =>
      cases h2 with
      | @dic a' lv _ n2 a2 d2 k2 =>
        refine .inr (.inr (.inl (.inr ⟨_, _, _, _, rfl, rfl, a1, a2, ?_, fun q hq => ?_⟩)))
        · rw [kk_len, kk_len]
          have := congrArg List.length ek
          rwa [List.length_map, List.length_map] at this
        · unfold kk at hq
          obtain ⟨r, hr, rfl⟩ := List.mem_map.mp hq
          obtain ⟨v, h3, h4⟩ := dic_at kv lv ek (RpAll.eqw ds n _ _ (by omega) k1 k2) r hr
          exact ⟨v, by rw [val_kk]; exact val_mem d2 h3, h4⟩
  | .non, 0, _, _, l, _, _ => absurd l (Nat.not_lt_zero _)
  | .bl _, 0, _, _, l, _, _ => absurd l (Nat.not_lt_zero _)
  | .int _, 0, _, _, l, _, _ => absurd l (Nat.not_lt_zero _)
  | .str _, 0, _, _, l, _, _ => absurd l (Nat.not_lt_zero _)
  | .lst _, 0, _, _, l, _, _ => absurd l (Nat.not_lt_zero _)
  | .tup _, 0, _, _, l, _, _ => absurd l (Nat.not_lt_zero _)
  | .fup _, 0, _, _, l, _, _ => absurd l (Nat.not_lt_zero _)
  | .dic _ _, 0, _, _, l, _, _ => absurd l (Nat.not_lt_zero _)
theorem RpAll.eqw : ∀ (ds : List Dt) (n : Nat) (xs ys : List V), Dt.depAll ds < n → RpAll b H xs ds → RpAll b H ys ds → Paired (EqW K H n) xs ys
  | [], n, xs, ys, _, h1, h2 => by cases h1; cases h2; exact .nil
  | d :: ds, n, xs, ys, l, h1, h2 => by
    have l' : max (Dt.dep d) (Dt.depAll ds) < n := l
    cases h1 with
    | cons a1 t1 =>
      cases h2 with
      | cons a2 t2 => exact .cons (Rp.eqw d n _ _ (by omega) a1 a2) (RpAll.eqw ds n _ _ (by omega) t1 t2)
end
end
/-- data that print within bounds -/
structure Gd (d : Dt) : Prop where
  fine : Fine d
  deep : d.dep ≤ 59
  cheap : d.cost ≤ 16000000
theorem Rp.dic_ref {b : Addr} {H : Hp} {v : V} {ks : List PySem.Str} {ds : List Dt} (h : Rp b H v (.dic ks ds)) : ∃ a, v = .ref a := by
  cases h
  exact ⟨_, rfl⟩
theorem Rp.two {b : Addr} {H : Hp} {x y : V} : ∀ {d : Dt}, Rp b H x d → Rp b H y d → (x = y ∧ scal x x = true) ∨ ∃ a c, x = .ref a ∧ y = .ref c
  | .non, h1, h2 => by cases h1; cases h2; exact .inl ⟨rfl, rfl⟩
  | .bl _, h1, h2 => by cases h1; cases h2; exact .inl ⟨rfl, rfl⟩
  | .int _, h1, h2 => by cases h1; cases h2; exact .inl ⟨rfl, rfl⟩
  | .str _, h1, h2 => by cases h1; cases h2; exact .inl ⟨rfl, rfl⟩
  | .lst _, h1, h2 => by cases h1; cases h2; exact .inr ⟨_, _, rfl, rfl⟩
  | .tup _, h1, h2 => by cases h1; cases h2; exact .inr ⟨_, _, rfl, rfl⟩
  | .fup _, h1, h2 => by cases h1; cases h2; exact .inr ⟨_, _, rfl, rfl⟩
  | .dic _ _, h1, h2 => by
    obtain ⟨a, e⟩ := h1.dic_ref
    obtain ⟨c, e2⟩ := h2.dic_ref
    exact .inr ⟨a, c, e, e2⟩
section
variable {X : Cx}
/-- repr(x), x standing for data -/
theorem call_reprD (hg : X.A.guards = some []) (hu : X.A.units + 64 < cLine) : CallR X (.builtin "repr") (fun vs H Q => ∃ (v : V) (b : Addr) (d : Dt), vs = [v] ∧ Rp b H v d ∧ Gd d ∧ Q (.str d.sh) H) := by
  intro pins s σ H xs us Q I r h
  obtain ⟨v, b, d, rfl, hr, g, q⟩ := h
  obtain ⟨as, sw, _⟩ := Rp.shw d v hr g.fine
  exact call_reprV hg hu pins s σ H _ us Q I r ⟨v, d.dep, as, d.sh, d.cost, rfl, sw, Nat.le_trans g.deep (by decide), g.cheap, q⟩
/-- x == y, both standing for the same data -/
theorem op_eqS (hu : X.A.units + 64 < cLine) : OpR X (compareOp .Eq) (fun x y H Q => ∃ (b : Addr) (d : Dt), Rp b H x d ∧ Rp b H y d ∧ d.dep ≤ 59 ∧ Q (.bl true) H) := by
  intro pins s σ H x y v u Q I rx ry h
  obtain ⟨b, d, h1, h2, l, q⟩ := h
  rcases Rp.two h1 h2 with ⟨rfl, z⟩ | ⟨a, c, rfl, rfl⟩
  · refine op_eq pins s σ H x x v u Q I rx ry ⟨z, ?_⟩
    rw [decide_eq_true rfl]
    exact q
  · have w : EqW X.K H (d.dep + 1) (.ref a) (.ref c) := Rp.eqw d _ _ _ (Nat.lt_succ_self _) h1 h2
    rcases w with ⟨_, z⟩ | ⟨a', e1, e2⟩ | w
    · exact Bool.noConfusion z
    · have st : ∀ (d : Dt), Rp b H (.ref a) d → EqR X.K H (EqW X.K H d.dep) (.ref a) (.ref a) ∨ EqT X.K H (EqW X.K H d.dep) (.ref a) (.ref a) := by
        intro d h
        cases h with
        | @lst _ xs ds n1 a1 k1 => exact .inl (.inl ⟨_, _, _, _, rfl, rfl, .inl (.inl a1), .inl (.inl a1), RpAll.eqw ds _ _ _ (Nat.lt_succ_self _) k1 k1⟩)
        | @tup _ xs ds a1 k1 => exact .inr ⟨_, _, _, _, rfl, rfl, .inl (.inl a1), .inl (.inl a1), RpAll.eqw ds _ _ _ (Nat.lt_succ_self _) k1 k1⟩
        | @fup _ o xs ds a1 e1 k1 => exact .inr ⟨_, _, _, _, rfl, rfl, .inl (.inr ⟨_, a1⟩), .inl (.inr ⟨_, a1⟩), RpAll.eqw ds _ _ _ (Nat.lt_succ_self _) k1 k1⟩
        | @dic _ kv ds n1 a1 d1 k1 =>
          refine .inl (.inr ⟨_, _, _, _, rfl, rfl, a1, a1, rfl, fun q hq => ?_⟩)
          unfold kk at hq
          obtain ⟨r, hr, rfl⟩ := List.mem_map.mp hq
          obtain ⟨v, h3, h4⟩ := dic_at kv kv rfl (RpAll.eqw (K := X.K) ds _ _ _ (Nat.lt_succ_self _) k1 k1) r hr
          exact ⟨v, by rw [val_kk]; exact val_mem d1 h3, h4⟩
      cases e1; cases e2
      exact op_eqW hu pins s σ H _ _ v u Q I rx ry ⟨d.dep, by omega, st d h1, q⟩
    · exact op_eqW hu pins s σ H _ _ v u Q I rx ry ⟨d.dep, by omega, w, q⟩
end
/-- _law_alike, where it says yes -/
def spAlike : Sp := fun vs H Q _ => ∃ (x y : V) (b : Addr) (d : Dt), vs = [x, y] ∧ Rp b H x d ∧ Rp b H y d ∧ Gd d ∧ Q (.bl true) H
end RX
/-! Lists read by place for +=, things turned about, tuples held against (). -/
namespace RX
open PySem PySem.Spec PyProof.Rows L2
section
variable {X : Cx}
/-- xs[i], read for xs[i] op= e -/
theorem pget_lst : PGet X (fun o i H Q => ∃ (p : Addr) (xs : List V) (k : Int) (v : V), o = .ref p ∧ i = .int k ∧ H p = some (.lst xs) ∧ 0 ≤ k ∧ k < 2 ^ 63 ∧ xs[k.toNat]? = some v ∧ Q v H) := by
  intro pins s σ H o i ov iv Q I ro ri h
  obtain ⟨p, xs, k, v, rfl, rfl, hp, h0, h1, hv, q⟩ := h
  cases (show ov = Value.ref p from ro)
  obtain ⟨t, rfl⟩ := ri
  obtain ⟨its, r, ht, hz⟩ := I.list (.inl (.inl hp))
  obtain ⟨u, hu, ru⟩ := r.get hv
  exact wpAny_getItem_list ht.isList h0 h1 (by simpa using hu) ⟨v, H, I, ru, q⟩
theorem rev_bounds (n : Nat) : Builtin.Slice.sliceAdjust none none (-1) (n : Int) = ((n : Int) - 1, -1) := by
  unfold Builtin.Slice.sliceAdjust
  simp
theorem rev_places (n : Nat) : Builtin.Slice.slicePlaces ((n : Int) - 1) (-1) (-1) = n := by
  unfold Builtin.Slice.slicePlaces
  have h1 : ¬ ((-1 : Int) > 0) := by omega
  simp only [h1, if_false, Int.neg_neg, Int.ediv_one]
  split <;> omega
theorem mem_picks {α : Type} {xs : Array α} {l : List Nat} {y : α} (h : y ∈ l.filterMap (xs[·]?)) : y ∈ xs.toList := by
  obtain ⟨i, _, e⟩ := List.mem_filterMap.mp h
  rw [← Array.getElem?_toList] at e
  exact List.mem_of_getElem? e
theorem tup_rev {prog : Program} {w : World} {A : Around} {E : Value → Shared → Prop} {s : Shared} {t sl : Addr} {items : Array Value} {k : Tok} {Q : Value → Shared → Prop} (ht : IsTup s.heap t items) (hs : s.heap.IsSliceOf sl .none .none (.int (-1) k))
    (h : ∀ ys : List Value, (∀ y ∈ ys, y ∈ items.toList) → ys.length ≤ items.size → Q (.ref s.heap.objs.size) { s with heap := s.heap.push { cls := .type "tuple", data := .seq ys.toArray } })
    (hsz : items.size ≤ sizeLine) : wpAny (model prog w) A (getItem (.ref t) (.ref sl)) Q E s := by
  obtain ⟨os, hos, hcs, hds⟩ := id hs
  have hTs : s.TypeIs (.ref sl) "slice" := ⟨os, hos, hcs⟩
  let ys : List Value := (List.range items.size).filterMap fun (m : Nat) => items[(((items.size : Int) - 1) + (m : Int) * (-1)).toNat]?
  have m1 : ∀ y ∈ ys, y ∈ items.toList := fun y hy => by
    obtain ⟨i, _, e⟩ := List.mem_filterMap.mp hy
    rw [← Array.getElem?_toList] at e
    exact List.mem_of_getElem? e
  have m2 : ys.length ≤ items.size := Nat.le_trans (List.length_filterMap_le _ _) (by rw [List.length_range]; exact Nat.le_refl _)
  have hq := h ys m1 m2
  have fit : sizeOk (.seq ys.toArray) := by
    show ys.toArray.size ≤ sizeLine
    rw [List.size_toArray]
    omega
  unfold getItem
  try with_reducible refine wpAny_holding ?_
  first | refine wpAny_bind (wpAny_pure ?_) | skip
  refine wpAny_bind (wpAny_sequenceKey ht.typeIs (by decide) ?_)
  refine wpAny_bind (wpAny_callSpecial?_slot (name := PySem.Str.ofString "__getitem__") ht.typeIs PyProof.Rows.slot_tuple_getitem (wpAny_call_entry PyProof.Rows.slot_tuple_getitem ht.typeIs entry_tuple_getitem ?_ (args_tuple_getitem _ _)))
  show wpAny _ _ (Builtin.Tuple.tupleItemsOf (.ref t) >>= _) _ _ s
  refine wpAny_bind (tupleItemsOf_ ht (wpAny_bind (wpAny_typeOf hTs ?_)))
  rw [if_pos (by decide)]
  have applied : ∀ {Q' : Int × Int × Nat → Shared → Prop}, Q' ((items.size : Int) - 1, -1, items.size) s → ∀ {E' : Value → Shared → Prop} {A' : Around}, wpAny (model prog w) A' (Builtin.Slice.sliceApplied (.ref sl) (pure (items.size : Int))) Q' E' s := by
    intro Q' hq' E' A'
    unfold Builtin.Slice.sliceApplied Builtin.Slice.sliceFields
    refine wpAny_bind (wpAny_bind (wpAny_field hos hds (x := .none) rfl (wpAny_bind (wpAny_field hos hds (x := .none) rfl (wpAny_bind (wpAny_field hos hds (x := .int (-1) k) rfl (wpAny_pure ?_)))))))
    refine wpAny_bind (slicePart_int ?_)
    show wpAny _ _ (if ((-1 : Int) == 0) = true then _ else _) _ _ s
    rw [if_neg (by decide)]
    refine wpAny_bind (slicePart_none (wpAny_bind (slicePart_none (wpAny_bind (wpAny_pure ?_)))))
    show wpAny _ _ (match Builtin.Slice.sliceAdjust none none (-1) (items.size : Int) with | (lo, hi) => pure (lo, (-1 : Int), Builtin.Slice.slicePlaces lo hi (-1))) _ _ s
    rw [rev_bounds]
    show wpAny _ _ (pure ((items.size : Int) - 1, (-1 : Int), Builtin.Slice.slicePlaces ((items.size : Int) - 1) (-1) (-1))) _ _ s
    rw [rev_places]
    exact wpAny_pure hq'
  refine wpAny_bind (applied ?_)
  have no : ¬ ((((items.size : Int) - 1) == 0 && (-1 : Int) == 1 && items.size == items.size) = true) := by
    intro q
    rw [Bool.and_eq_true, Bool.and_eq_true] at q
    exact absurd q.1.2 (by decide)
  show wpAny _ _ (if (((items.size : Int) - 1) == 0 && (-1 : Int) == 1 && items.size == items.size) = true then _ else _) _ _ s
  rw [if_neg no]
  first
    | exact wpAny_bind (m := Builtin.Tuple.tupleExact _) (wpAny_newObj_type (wpAny_pure ⟨_, rfl, wpAny_pure hq⟩) fit)
    | exact wpAny_bind (m := Builtin.Tuple.tupleExact _) (wpAny_newObj_type (wpAny_bind (wpAny_pure (wpAny_pure ⟨_, rfl, wpAny_pure hq⟩))) fit)
    | exact wpAny_bind (wpAny_bind (m := Builtin.Tuple.tupleExact _) (wpAny_newObj_type (wpAny_pure (wpAny_pure ⟨_, rfl, wpAny_pure hq⟩)) fit))
    | exact wpAny_bind (wpAny_bind (m := Builtin.Tuple.tupleExact _) (wpAny_newObj_type (wpAny_pure ⟨_, rfl, wpAny_pure hq⟩) fit))
/-- t == () -/
theorem op_eqT0 (hu : X.A.units < cLine) : OpR X (compareOp .Eq) (fun x y H Q => ∃ (a b : Addr) (xs : List V), x = .ref a ∧ y = .ref b ∧ SqT X.K H a xs ∧ SqT X.K H b [] ∧ Q (.bl xs.isEmpty) H) := by
  intro pins s σ H x y v u Q I rx ry h
  obtain ⟨a, b, xs, rfl, rfl, ha, hb, q⟩ := h
  cases (show v = Value.ref a from rx)
  cases (show u = Value.ref b from ry)
  obtain ⟨i1, r1, p1, _⟩ := I.tuple ha
  obtain ⟨i2, r2, p2, _⟩ := I.tuple hb
  cases r2
  refine SeqAt.eq_tupleAt (e := fun _ => true) p1 p2 hu (fun j _ h2 => absurd h2 (Nat.not_lt_zero j)) ?_
  refine ⟨.bl xs.isEmpty, H, I, ?_, q⟩
  cases r1 with
  | nil => rfl
  | cons c d => simp [L2.RelV]
theorem cut_mem {z : PySem.Str} {lo hi : Option Int} {k : Nat} (h : k ∈ (cutS z lo hi).cps.toList) : k ∈ z.cps.toList := by
  have h' : k ∈ (z.cps.toList.drop (HT.sIx z.length 0 lo)).take (HT.sIx z.length z.length hi - HT.sIx z.length 0 lo) := h
  exact List.mem_of_mem_drop (List.mem_of_mem_take h')
/-- x[::-1], x a text or a tuple: some arrangement of its items -/
theorem pe_rev {e : Expr} {te : TE} {k : Nat} {p1 p2 p3 pos : Pos} (he : PE X e te) : PE X (.Subscript e (.Slice none none (some (.UnaryOp .USub (.Constant (.int 1) k p1) p2)) p3) pos)
    (fun σ H Q => te σ H fun x H1 => (∃ z, x = .str z ∧ z.length ≤ sizeLine ∧ ∀ y : PySem.Str, y.length ≤ z.length → (∀ k ∈ y.cps.toList, k ∈ z.cps.toList) → Q (.str y) H1) ∨
      (∃ a xs, x = .ref a ∧ SqT X.K H1 a xs ∧ ∀ p ys, H1 p = none → (∀ y ∈ ys, y ∈ xs) → ys.length ≤ xs.length → Q (.ref p) (upd H1 p (.tup ys)))) := by
  constructor
  intro pins s σ H Q I h
  refine Subscript_ (thn (he.run pins s σ H _ I h) ?_)
  rintro v s1 ⟨x, H1, I1, r1, q1⟩
  have hst : PO X (some (.UnaryOp .USub (.Constant (.int 1) k p1) p2)) (tPart (tUn (rU fun i => .int (-i)) (tC (.int 1)))) := po_some (pe_un un_neg pe_int)
  refine wpAny_Slice (thn (po_none.run pins s1 σ H1 (fun o H2 => o = none ∧ H2 = H1) I1 ⟨rfl, rfl⟩) ?_)
  rintro vl s2 ⟨l, H2, I2, pl, rfl, rfl⟩
  refine thn (po_none.run pins s2 σ H2 (fun o H3 => o = none ∧ H3 = H2) I2 ⟨rfl, rfl⟩) ?_
  rintro vu s3 ⟨u, H3, I3, pu, rfl, rfl⟩
  refine thn (hst.run pins s3 σ H3 (fun o H4 => o = some (-1) ∧ H4 = H3) I3 ⟨1, rfl, -1, rfl, rfl, rfl⟩) ?_
  rintro vs s4 ⟨o, H4, I4, ps, rfl, rfl⟩
  cases pl
  cases pu
  obtain ⟨tk, rfl⟩ : ∃ tk, vs = .int (-1) tk := by cases ps with | int i t => exact ⟨t, rfl⟩
  have I5 : Inv X pins σ H4 { s4 with heap := s4.heap.push { cls := .type "slice", data := .fields #[Value.none, Value.none, .int (-1) tk] } } := I4.kept (t' := s4.toks) fun b ob q => Heap.get?_push_of_some _ q
  show wpAny (model X.prog X.w) X.A (subscriptTail e (.Slice none none (some (.UnaryOp .USub (.Constant (.int 1) k p1) p2)) p3) v (.ref s4.heap.objs.size)) (EP X pins σ Q) X.xe _
  rcases q1 with ⟨z, rfl, hz, q⟩ | ⟨a, xs, rfl, hx, q⟩
  · obtain ⟨t, rfl⟩ := r1
    refine tail_any (ops := [.str z t, .ref s4.heap.objs.size]) (typeIs_str _ z t) F.slot_str_getitem.lookup ?_ (by with_unfolding_all rfl)
    refine wpAny_getItem_str_slice (l := none) (u := none) (st := some (-1, tk)) ⟨_, Heap.get?_push_size _ rfl, rfl, rfl⟩ rfl ?_
    let y : PySem.Str := ⟨((slicePicked z none none (some (-1, tk))).filterMap (z.cps[·]?)).toArray⟩
    have e1 : slicePicked z none none (some (-1, tk)) = (List.range z.length).map fun k => z.length - 1 - k := by
      show Builtin.Str.strSliceIndices none none (-1) z.length = _
      unfold Builtin.Str.strSliceIndices
      simp only [show ¬ ((-1 : Int) > 0) by decide, if_false]
      exact PySem.W.krv_sliceRange z.length
    have e2 : y.length ≤ z.length := by
      show (((slicePicked z none none (some (-1, tk))).filterMap (z.cps[·]?)).toArray).size ≤ z.length
      rw [List.size_toArray]
      refine Nat.le_trans (List.length_filterMap_le _ _) ?_
      rw [e1, List.length_map, List.length_range]
      exact Nat.le_refl _
    have e3 : ∀ k ∈ y.cps.toList, k ∈ z.cps.toList := fun k hk => mem_picks hk
    have hq := q y e2 e3
    unfold sliceMade
    rw [if_neg (by intro c; exact absurd (show ((-1 : Int) == 1) = true from (Bool.and_eq_true_iff.mp c).1) (by decide))]
    exact ⟨by show y.length ≤ sizeLine; omega, .str y, H4, I5.tok _, ⟨_, rfl⟩, hq⟩
  · cases (show v = Value.ref a from r1)
    obtain ⟨its, r, ht, hz⟩ := I5.tuple hx
    refine tail_any (ops := [.ref a, .ref s4.heap.objs.size]) ht.typeIs PyProof.Rows.slot_tuple_getitem.lookup ?_ (by with_unfolding_all rfl)
    refine tup_rev ht (Heap.IsSliceOf.new _ _ _ _) (fun ys hy hl => ?_) (by rw [List.size_toArray, ← r.length]; exact hz)
    obtain ⟨zs, rz, hzs⟩ : ∃ zs : List V, Vals zs ys ∧ ∀ y ∈ zs, y ∈ xs := by
      clear hl
      induction ys with
      | nil => exact ⟨[], .nil, fun y hy => by cases hy⟩
      | cons y ys ih =>
        obtain ⟨zs, rz, hzs⟩ := ih fun w hw => hy w (List.mem_cons_of_mem _ hw)
        obtain ⟨j, hj⟩ := List.mem_iff_getElem?.mp (hy y List.mem_cons_self)
        have hj' : its[j]? = some y := by simpa using hj
        rcases Option.eq_none_or_eq_some (xs[j]?) with n | ⟨x, n⟩
        · have := r.none_of n
          rw [this] at hj'; cases hj'
        · obtain ⟨u, hu, ru⟩ := r.get n
          rw [hj'] at hu
          cases hu
          exact ⟨x :: zs, .cons ru rz, fun w hw => by
            rcases List.mem_cons.mp hw with e | e
            · exact e ▸ List.mem_of_getElem? n
            · exact hzs w e⟩
    have hlen : zs.length ≤ xs.length := by
      rw [rz.length, r.length]
      rw [List.size_toArray] at hl
      exact hl
    have hn := I5.hok.fresh (Nat.le_refl _)
    refine ⟨.ref _, _, I5.laid (t' := s4.toks) (o := .tup zs) (fun b ob q => Heap.get?_push_of_some _ q) (Nat.le_refl _) ?_, rfl, q _ zs hn hzs hlen⟩
    exact ⟨by omega, _, rz, IsTup.new _ _⟩
end
end RX
/-! The bag of drawn numbers; what stays. -/
namespace RX
open PySem PySem.Spec PyProof.Rows L2
/-- all but b is as it was -/
structure Chb (b : Addr) (H H' : Hp) : Prop where
  app : ∀ a o, a ≠ b → H a = some o → H' a = some o
  fo : ∀ x y z l, H b = some (.lst [x, y, z, l]) → ∃ x y z, H' b = some (.lst [x, y, z, l])
instance {b : Addr} {H H' : Hp} : CoeFun (Chb b H H') (fun _ => ∀ a o, a ≠ b → H a = some o → H' a = some o) := ⟨Chb.app⟩
theorem Chb.refl {b : Addr} {H : Hp} : Chb b H H := ⟨fun _ _ _ h => h, fun _ _ _ _ h => ⟨_, _, _, h⟩⟩
theorem Chb.trans {b : Addr} {H H1 H2 : Hp} (x : Chb b H H1) (y : Chb b H1 H2) : Chb b H H2 := ⟨fun a o n h => y.app a o n (x.app a o n h), fun p q r l h => by
  obtain ⟨_, _, _, h1⟩ := x.fo p q r l h
  exact y.fo _ _ _ _ h1⟩
theorem Chb.new {b p : Addr} {o : HO} {H : Hp} (h : H p = none) : Chb b H (upd H p o) := ⟨fun a u _ e => by rw [upd_ne (ne_of_none e h)]; exact e, fun x y z l e => ⟨x, y, z, by rw [upd_ne (ne_of_none e h)]; exact e⟩⟩
theorem Chb.set {b : Addr} {x y z l x' y' z' : V} {H : Hp} (h : H b = some (.lst [x, y, z, l])) : Chb b H (upd H b (.lst [x', y', z', l])) := ⟨fun a u n e => by rw [upd_ne n]; exact e, fun p q r m e => by
  rw [h] at e
  cases e
  exact ⟨_, _, _, upd_same⟩⟩
theorem Chb.same {b : Addr} {H H' : Hp} (h : ∀ a o, H a = some o → H' a = some o) : Chb b H H' := ⟨fun a o _ e => h a o e, fun x y z l e => ⟨x, y, z, h _ _ e⟩⟩
theorem new_ne {H : Hp} {a p : Addr} {o u : HO} (ha : H a = some o) (hp : H p = none) : (upd H p u) a = some o := by rw [upd_ne (ne_of_none ha hp)]; exact ha
theorem new_same {H : Hp} {p : Addr} {o : HO} (h : H p = none) : Same H (upd H p o) := fun a u e => new_ne e h
/-- the bag at b -/
def Bag (H : Hp) (b : Addr) : Prop := ∃ (n m k : Int) (l : Addr) (cs : List Int), H b = some (.lst [.int n, .int m, .int k, .ref l]) ∧ H l = some (.lst (cs.map V.int)) ∧ l ≠ b ∧ 0 ≤ n ∧ 0 ≤ m ∧ m < 2147483647 ∧ cs.length ≤ 63 ∧ ∀ c ∈ cs, 0 ≤ c
theorem head_int {cs : List Int} (hc : ∀ c ∈ cs, 0 ≤ c) (lo hi : Option Int) : ∃ c : Int, 0 ≤ c ∧ atI (cutV (cs.map V.int) lo hi ++ [.int 0]) 0 = some (.int c) := by
  have sub : ∀ v ∈ cutV (cs.map V.int) lo hi, ∃ c, 0 ≤ c ∧ v = .int c := fun v hv => by
    have h1 := List.mem_of_mem_drop (List.mem_of_mem_take hv)
    obtain ⟨c, hc', e⟩ := List.mem_map.mp h1
    exact ⟨c, hc c hc', e.symm⟩
  generalize cutV (cs.map V.int) lo hi = zs at sub
  cases zs with
  | nil => exact ⟨0, by omega, rfl⟩
  | cons v zs =>
    obtain ⟨c, h0, rfl⟩ := sub v List.mem_cons_self
    exact ⟨c, h0, atI_nat (j := 0) rfl⟩
theorem Bag.same {b : Addr} {H H' : Hp} (B : Bag H b) (s : Same H H') : Bag H' b := by
  obtain ⟨n, m, k, l, cs, hb, hl, r⟩ := B
  exact ⟨n, m, k, l, cs, s _ _ hb, s _ _ hl, r⟩
theorem Bag.lst {b : Addr} {H : Hp} (B : Bag H b) : ∃ o, H b = some o := by
  obtain ⟨n, m, k, l, cs, hb, _⟩ := B
  exact ⟨_, hb⟩
/-- the bag's own list -/
def Own (H : Hp) (b l : Addr) : Prop := ∃ x y z, H b = some (.lst [x, y, z, .ref l])
theorem Bag.own {b : Addr} {H : Hp} (B : Bag H b) : ∃ l cs, Own H b l ∧ H l = some (.lst cs) ∧ l ≠ b := by
  obtain ⟨n, m, k, l, cs, hb, hl, hne, _⟩ := B
  exact ⟨l, _, ⟨_, _, _, hb⟩, hl, hne⟩
theorem Own.chb {b l : Addr} {H H' : Hp} (o : Own H b l) (c : Chb b H H') : Own H' b l := by
  obtain ⟨x, y, z, h⟩ := o
  exact c.fo _ _ _ _ h
/-- another object changed -/
theorem Bag.set {b l r : Addr} {H : Hp} {o : HO} (B : Bag H b) (w : Own H b l) (h1 : r ≠ b) (h2 : r ≠ l) : Bag (upd H r o) b ∧ Own (upd H r o) b l := by
  obtain ⟨n, m, k, l', cs, hb, hl, rest⟩ := B
  obtain ⟨x, y, z, hw⟩ := w
  rw [hb] at hw
  cases hw
  have e1 : upd H r o b = some (.lst [.int n, .int m, .int k, .ref l]) := by rw [upd_ne h1.symm]; exact hb
  have e2 : upd H r o l = some (.lst (cs.map V.int)) := by rw [upd_ne h2.symm]; exact hl
  exact ⟨⟨n, m, k, l, cs, e1, e2, rest⟩, ⟨_, _, _, e1⟩⟩
theorem Chb.put {b r : Addr} {H H' : Hp} {o : HO} (c : Chb b H H') (n : H r = none) (h : r ≠ b) : Chb b H (upd H' r o) := ⟨fun a u ne e => by
  rw [upd_ne (ne_of_none e n)]
  exact c.app a u ne e, fun x y z l e => by
  obtain ⟨p, q, s, e'⟩ := c.fo x y z l e
  exact ⟨p, q, s, by rw [upd_ne h.symm]; exact e'⟩⟩
section
variable {X : Cx} {e : Expr}
/-- a test, what holds behind it said once -/
theorem pt_mid {t : TT} (h : PT X e t) : PT X e (fun σ H Q => ∃ M : Bool → Hp → Prop, t σ H M ∧ ∀ c H', M c H' → Q c H') := by
  constructor
  intro pins s σ H Q I ⟨M, hm, k⟩
  exact thn (h.run pins s σ H M I hm) fun c s1 ⟨H1, I1, q⟩ => ⟨H1, I1, k c H1 q⟩
theorem pe_mid {t : TE} (h : PE X e t) : PE X e (fun σ H Q => ∃ M : V → Hp → Prop, t σ H M ∧ ∀ x H', M x H' → Q x H') := by
  constructor
  intro pins s σ H Q I ⟨M, hm, k⟩
  exact thn (h.run pins s σ H M I hm) fun c s1 ⟨x, H1, I1, r, q⟩ => ⟨x, H1, I1, r, k x H1 q⟩
end
theorem ne_new {b p : Addr} {H : Hp} {o : HO} (hb : H b = some o) (hp : H p = none) : b ≠ p := ne_of_none hb hp
/-- all tuples stay -/
def KT (H H' : Hp) : Prop := ∀ a xs, H a = some (.tup xs) → H' a = some (.tup xs)
theorem KT.trans {H H1 H2 : Hp} (x : KT H H1) (y : KT H1 H2) : KT H H2 := fun a xs h => y a xs (x a xs h)
theorem KT.same {H H' : Hp} (s : Same H H') : KT H H' := fun a xs h => s _ _ h
theorem KT.new {H : Hp} {p : Addr} {o : HO} (n : H p = none) : KT H (upd H p o) := KT.same (new_same n)
theorem KT.lst {H : Hp} {p : Addr} {o : HO} {xs : List V} (n : H p = some (.lst xs)) : KT H (upd H p o) := fun a ys h => by
  rw [upd_ne (fun z => by rw [z, n] at h; cases h)]
  exact h
theorem KT.dic {H : Hp} {p : Addr} {o : HO} {xs : List (L2.Key × V)} (n : H p = some (.dK xs)) : KT H (upd H p o) := fun a ys h => by
  rw [upd_ne (fun z => by rw [z, n] at h; cases h)]
  exact h
theorem Chb.kt {b : Addr} {H H' : Hp} (B : Bag H b) (c : Chb b H H') : KT H H' := fun a xs h => by
  obtain ⟨n, m, k, l, cs, hb, _⟩ := B
  exact c _ _ (fun z => by rw [z, hb] at h; cases h) h
theorem perm_map_inv {α β : Type} {f : α → β} {ys zs : List β} (p : ys.Perm zs) : ∀ L : List α, zs = L.map f → ∃ L' : List α, L'.Perm L ∧ ys = L'.map f := by
  induction p with
  | nil =>
    intro L h
    cases L with
    | nil => exact ⟨[], .nil, rfl⟩
    | cons a L => cases h
  | cons x p ih =>
    intro L h
    cases L with
    | nil => cases h
    | cons a L =>
      rw [List.map_cons] at h
      injection h with h1 h2
      obtain ⟨L', q, e⟩ := ih L h2
      exact ⟨a :: L', q.cons a, by rw [List.map_cons, h1, e]⟩
  | swap x y l =>
    intro L h
    cases L with
    | nil => cases h
    | cons a L =>
      cases L with
      | nil => rw [List.map_cons] at h; injection h with _ h2; cases h2
      | cons c L =>
        rw [List.map_cons, List.map_cons] at h
        injection h with h1 h2
        injection h2 with h2 h3
        exact ⟨c :: a :: L, List.Perm.swap a c L, by rw [List.map_cons, List.map_cons, h1, h2, h3]⟩
  | trans p1 p2 i1 i2 =>
    intro L h
    obtain ⟨L1, q1, e1⟩ := i2 L h
    obtain ⟨L2, q2, e2⟩ := i1 L1 e1
    exact ⟨L2, q2.trans q1, e2⟩
theorem nodup_le {α : Type} [DecidableEq α] : ∀ {xs ys : List α}, xs.Nodup → (∀ x ∈ xs, x ∈ ys) → xs.length ≤ ys.length
  | [], ys, _, _ => Nat.zero_le _
  | x :: xs, ys, h, m => by
    obtain ⟨h1, h2⟩ := List.nodup_cons.mp h
    have hx : x ∈ ys := m x List.mem_cons_self
    have ih := nodup_le (xs := xs) (ys := ys.erase x) h2 fun y hy => (List.mem_erase_of_ne (fun e : y = x => h1 (by rw [← e]; exact hy))).mpr (m y (List.mem_cons_of_mem _ hy))
    rw [List.length_erase_of_mem hx] at ih
    have : 0 < ys.length := List.length_pos_of_mem hx
    rw [List.length_cons]
    omega
theorem same_no {H H' : Hp} {p : Addr} (s : Same H H') (h : H' p = none) : H p = none := by
  cases e : H p with
  | none => rfl
  | some o => have := s _ _ e; rw [h] at this; cases this
theorem all_cons {α : Type} {F : α → Prop} {x : α} {xs : List α} (h : F x) (t : ∀ v ∈ xs, F v) : ∀ v ∈ x :: xs, F v := fun v hv => by
  rcases List.mem_cons.mp hv with e | e
  · exact e ▸ h
  · exact t v e
section
variable {b : Addr} {H H' : Hp}
theorem kp_chb (B : Bag H b) (c : Chb b H H') : Kp b H H' := fun a o e n1 n2 => by
  by_cases z : a = b
  · subst z
    obtain ⟨n, m, k, l, cs, hb, _⟩ := B
    rw [hb] at e
    cases e
    exact absurd rfl (n1 _ rfl)
  · exact c _ _ z e
theorem Rp.chb {v : V} {d : Dt} (h : Rp b H v d) (B : Bag H b) (c : Chb b H H') : Rp b H' v d := Rp.kp (kp_chb B c) d v h
theorem RpAll.chb {vs : List V} {ds : List Dt} (h : RpAll b H vs ds) (B : Bag H b) (c : Chb b H H') : RpAll b H' vs ds := RpAll.kp (kp_chb B c) ds vs h
theorem rp_strs : ∀ xs : List PySem.Str, RpAll b H (xs.map V.str) (xs.map Dt.str)
  | [] => .nil
  | x :: xs => .cons (.str x) (rp_strs xs)
theorem rp_app {vs us : List V} {ds es : List Dt} (h : RpAll b H vs ds) (k : RpAll b H us es) : RpAll b H (vs ++ us) (ds ++ es) := by
  induction vs generalizing ds with
  | nil => cases h; exact k
  | cons v vs ih =>
    cases h with
    | cons a t => exact .cons a (ih t)
end
end RX
/-! The draws. -/
namespace V66
open PySem PySem.Spec PyProof.Rows L2 TL RX
def topS (i : Nat) : Stmt := PySem.Challenge.pw_packsworn_k66_trees_and_steps.main.body.getD i (.Pass ⟨0, 0, 0, 0⟩)
abbrev sTake : Stmt := topS 10
abbrev sBag : Stmt := topS 9
theorem scTake : FnScope ["bag", "many", "cell", "stirred", "value", "begin", "second"] ["bag", "many"] (defScope sTake) := ⟨rfl, rfl, rfl, by decide +kernel, rfl, by decide +kernel, by decide +kernel⟩
theorem scBag : FnScope ["script", "cell"] ["script"] (defScope sBag) := ⟨rfl, rfl, rfl, by decide +kernel, rfl, by decide +kernel, by decide +kernel⟩
section
variable {P : Program} {w : World} {K : PySem.W.Frag} {mg : PySem.Str → Option Value} {base : Heap}
def spTake : Sp := fun vs H Q _ => ∃ (b : Addr) (many : Int), vs = [.ref b, .int many] ∧ Bag H b ∧ 0 < many ∧ many < 1073741824 ∧ ∀ H' v, Chb b H H' → Bag H' b → 0 ≤ v → v < many → Q (.int v) H'
theorem ok_take {f : Addr} {fd : FuncData} {k : Nat} (F : Fun K "_law_take" "_law_take" sTake f fd) (mI : mg "int" = none) : FnOk P w K mg base CX0 (k + 1) f fd ["bag", "many"] spTake := by
  refine F.ok scTake (fun vs H Q E h => ?_) (fun cdv A outer s H vs Q E hr h => ?_)
  · obtain ⟨b, many, rfl, _⟩ := h
    rfl
  · obtain ⟨b, many, rfl, hB, hm0, hm1, q⟩ := h
    refine ⟨_, C8.pss_cut (ps_if (pt_cmpR op_eq (pe_ix ix_list (pv 0) pe_int (fun _ _ => rfl)) pe_int (nomark _))
        (pss_cons (ps_set (i := 2) scTake.nd rfl (.inl rfl) (pe_ix ix_list (pe_op op_cat (pe_slice sl_list (pe_ix ix_list (pv 0) pe_int (fun _ _ => rfl)) (po_some (pe_ix ix_list (pv 0) pe_int (fun _ _ => rfl))) po_none) (pe_lst (pa_cons pe_int pa_nil))) pe_int (fun _ _ => rfl)))
        (pss_cons (ps_augS (pv 0) pe_int pget_lst pe_int ip_add set_list)
        (C8.pss_cut (ps_if (pt_cmpR op_ge (pv 2) (pe_op op_pow pe_int pe_int) (nomark _)) (pss_one (ps_asg (pv 2) (pg_sub (pv 0) pe_int set_list))) pss_nil)
        (pss_cons (ps_set (i := 3) scTake.nd rfl (.inl rfl) (pe_op op_add (pe_op op_add (pe_op op_mul (pe_ix ix_list (pv 0) pe_int (fun _ _ => rfl)) pe_int) (pe_op op_mod (pe_callTy call_int1 (by rfl) mI (by decide +kernel) (pa_cons (pv 2) pa_nil)) pe_int)) (pe_op op_mul pe_int (pe_ix ix_list (pv 0) pe_int (fun _ _ => rfl)))))
        (pss_one (ps_asg (pe_op op_mod (pe_callTy call_int1 (by rfl) mI (by decide +kernel) (pa_cons (pv 3) pa_nil)) pe_int) (pg_sub (pv 0) pe_int set_list)))))))
        pss_nil)
      (pss_cons (ps_if (pt_cmpR op_gt (pe_ix ix_list (pv 0) pe_int (fun _ _ => rfl)) pe_int (nomark _))
        (pss_cons (ps_set (i := 4) scTake.nd rfl (.inl rfl) (pe_op op_mod (pe_callTy call_int1 (by rfl) mI (by decide +kernel) (pa_cons (pe_ix ix_list (pv 0) pe_int (fun _ _ => rfl)) pa_nil)) (pv 1)))
        (pss_cons (ps_asg (pe_op op_fdiv (pe_callTy call_int1 (by rfl) mI (by decide +kernel) (pa_cons (pe_ix ix_list (pv 0) pe_int (fun _ _ => rfl)) pa_nil)) (pv 1)) (pg_sub (pv 0) pe_int set_list))
        (pss_one (ps_ret (pv 4)))))
        pss_nil)
      (pss_cons (ps_set (i := 5) scTake.nd rfl (.inl rfl) (pe_op op_mod (pe_callTy call_int1 (by rfl) mI (by decide +kernel) (pa_cons (pe_op op_mul (pe_op op_add (pe_ix ix_list (pv 0) pe_int (fun _ _ => rfl)) pe_int) pe_int) pa_nil)) pe_int))
      (pss_cons (ps_set (i := 6) scTake.nd rfl (.inl rfl) (pe_op op_mod (pe_callTy call_int1 (by rfl) mI (by decide +kernel) (pa_cons (pe_op op_mul (pe_op op_mod (pe_callTy call_int1 (by rfl) mI (by decide +kernel) (pa_cons (pe_op op_mul (pv 5) (pv 5)) pa_nil)) pe_int) pe_int) pa_nil)) pe_int))
      (pss_one (ps_ret (pe_op op_mod (pe_callTy call_int1 (by rfl) mI (by decide +kernel) (pa_cons (pe_op op_fdiv (pv 6) pe_int) pa_nil)) (pv 1))))))), ?_⟩
    obtain ⟨n, m, k, l, cs, hb, hl, hne, h0, h1, h2, h3, hcs⟩ := hB
    refine ⟨fun σ' H' => ∃ y2 y3, σ' = [some (.ref b), some (.int many), y2, y3, none, none, none] ∧ Chb b H H' ∧ Bag H' b, ?_, fun σ' H' hM => ?_⟩
    · refine ⟨.ref b, rfl, b, _, 0, .int n, rfl, rfl, .inl (.inl hb), rfl, rfl, _, rfl, ite2 (fun e => ?_) (fun e => ?_)⟩
      · obtain ⟨c, hc0, hc⟩ := head_int hcs (some k) none
        refine ⟨.ref b, rfl, b, _, 3, .ref l, rfl, rfl, .inl (.inl hb), rfl, .ref b, rfl, b, _, 2, .int k, rfl, rfl, .inl (.inl hb), rfl, k, rfl, l, _, rfl, .inl (.inl hl), fun p np => ⟨by show 1 ≤ sizeLine; decide, fun o no => ?_⟩⟩
        refine ⟨p, o, _, _, rfl, rfl, new_ne upd_same no, upd_same, ?_, fun r nr => ?_⟩
        · have := cutV_length (cs.map V.int) (some k) none
          rw [List.length_map] at this
          rw [sizeLine_eq]
          show _ + 1 ≤ _
          omega
        · refine ⟨r, _, 0, .int c, rfl, rfl, .inl (.inl upd_same), hc, ?_⟩
          generalize hH3 : upd (upd (upd H p _) o _) r _ = H3
          have c3 : Same H H3 := by rw [← hH3]; exact ((new_same np).trans (new_same no)).trans (new_same nr)
          have hb3 := c3 _ _ hb
          refine ⟨.ref b, rfl, b, _, 2, .int k, rfl, rfl, hb3, by decide, by decide, rfl, k, 1, rfl, rfl, b, _, 2, 2, rfl, rfl, hb3, rfl, ?_⟩
          refine ⟨fun σ' H' => σ' = [some (.ref b), some (.int many), some (.int c), none, none, none, none] ∧ Chb b H H' ∧ ∃ n', 0 ≤ n' ∧ H' b = some (.lst [.int n', .int m, .int (k + 1), .ref l]), ?_, fun σ' H' hM => ?_⟩
          · refine ⟨_, rfl, 10, 18, rfl, rfl, ⟨by decide, by decide, by decide⟩, c, _, rfl, rfl, _, rfl, ite2 (fun e2 => ?_) (fun e2 => ?_)⟩
            · exact ⟨_, rfl, .ref b, rfl, b, _, 0, 0, rfl, rfl, upd_same, rfl, rfl, ((Chb.same c3).trans (Chb.set hb3)).trans (Chb.set upd_same), c, hc0, upd_same⟩
            · exact ⟨rfl, (Chb.same c3).trans (Chb.set hb3), n, h0, upd_same⟩
          · obtain ⟨rfl, hC, n', hn', hb5⟩ := hM
            refine ⟨.ref b, rfl, b, _, 1, .int m, rfl, rfl, .inl (.inl hb5), rfl, m, 48271, rfl, rfl, .inl ⟨by omega, by omega⟩, _, rfl, .inl ⟨c, rfl, c, 2147483647, rfl, rfl, (by show (0 : Int) < 2147483647; decide), _, _, rfl, rfl, .ref b, rfl, b, _, 2, .int (k + 1), rfl, rfl, .inl (.inl hb5), rfl, 7919, k + 1, rfl, rfl, .inl ⟨by decide, by decide⟩, _, _, rfl, rfl, ?_⟩⟩
            refine ⟨_, rfl, .inl ⟨_, rfl, _, 2147483647, rfl, rfl, (by show (0 : Int) < 2147483647; decide), .ref b, rfl, b, _, 1, 1, rfl, rfl, hb5, rfl, ?_⟩⟩
            refine ⟨_, _, rfl, hC.trans (Chb.set hb5), n', _, k + 1, l, cs, upd_same, ?_, hne, hn', Int.emod_nonneg _ (by decide), Int.emod_lt_of_pos _ (by decide), h3, hcs⟩
            rw [upd_ne hne]
            exact hC _ _ hne hl
      · exact ⟨none, none, rfl, Chb.refl, n, m, k, l, cs, hb, hl, hne, h0, h1, h2, h3, hcs⟩
    · clear hb hl hne h0 h1 h2 h3 hcs
      obtain ⟨y2, y3, rfl, hC, n, m, k, l, cs, hb, hl, hne, h0, h1, h2, h3, hcs⟩ := hM
      refine ⟨.ref b, rfl, b, _, 0, .int n, rfl, rfl, .inl (.inl hb), rfl, n, 0, rfl, rfl, _, rfl, ite2 (fun e => ?_) (fun e => ?_)⟩
      · refine ⟨.ref b, rfl, b, _, 0, .int n, rfl, rfl, .inl (.inl hb), rfl, .inl ⟨n, rfl, _, rfl, n, many, rfl, rfl, hm0, ?_⟩⟩
        refine ⟨.ref b, rfl, b, _, 0, .int n, rfl, rfl, .inl (.inl hb), rfl, .inl ⟨n, rfl, _, rfl, n, many, rfl, rfl, ⟨hm0, hm1⟩, .ref b, rfl, b, _, 0, 0, rfl, rfl, hb, rfl, _, rfl, ?_⟩⟩
        refine q _ _ (hC.trans (Chb.set hb)) ⟨n / many, m, k, l, cs, upd_same, ?_, hne, Int.ediv_nonneg h0 (by omega), h1, h2, h3, hcs⟩ (Int.emod_nonneg _ (by omega)) (Int.emod_lt_of_pos _ hm0)
        rw [upd_ne hne]
        exact hl
      · have hB' : Bag H' b := ⟨n, m, k, l, cs, hb, hl, hne, h0, h1, h2, h3, hcs⟩
        refine ⟨.ref b, rfl, b, _, 1, .int m, rfl, rfl, .inl (.inl hb), rfl, m, 1, rfl, rfl, m + 1, 39373, rfl, rfl, .inl ⟨by omega, by omega⟩, .inl ⟨_, rfl, _, 1000000007, rfl, rfl, (by show (0 : Int) < 1000000007; decide), ?_⟩⟩
        have b0 := Int.emod_nonneg ((m + 1) * 39373) (show (1000000007 : Int) ≠ 0 by decide)
        have b1 := Int.emod_lt_of_pos ((m + 1) * 39373) (show (0 : Int) < 1000000007 by decide)
        refine ⟨_, rfl, _, rfl, (m + 1) * 39373 % 1000000007, (m + 1) * 39373 % 1000000007, rfl, rfl, .inl ⟨by omega, by omega⟩, ?_⟩
        generalize (m + 1) * 39373 % 1000000007 = begn at b0 b1
        have d0 := Int.emod_nonneg (begn * begn) (show (998244353 : Int) ≠ 0 by decide)
        have d1 := Int.emod_lt_of_pos (begn * begn) (show (0 : Int) < 998244353 by decide)
        refine .inl ⟨_, rfl, _, 998244353, rfl, rfl, (by show (0 : Int) < 998244353; decide), _, 30011, rfl, rfl, .inl ⟨by omega, by omega⟩, .inl ⟨_, rfl, _, 998244353, rfl, rfl, (by show (0 : Int) < 998244353; decide), ?_⟩⟩
        refine ⟨_, rfl, _, 7, rfl, rfl, ⟨by decide, by decide⟩, .inl ⟨_, rfl, _, rfl, _, many, rfl, rfl, hm0, ?_⟩⟩
        exact q _ _ hC hB' (Int.emod_nonneg _ (by omega)) (Int.emod_lt_of_pos _ hm0)
def spBag (K : PySem.W.Frag) : Sp := fun vs H Q _ => ∃ (a : Addr) (ns : List Int), vs = [.ref a] ∧ SqL K H a (ns.map V.int) ∧ ns.length ≤ 63 ∧ ∀ H' b, Same H H' → H b = none → Bag H' b → Q (.ref b) H'
theorem ok_bag {f : Addr} {fd : FuncData} {k : Nat} (F : Fun K "_law_bag" "_law_bag" sBag f fd) (mA : mg "abs" = none) : FnOk P w K mg base CX0 (k + 1) f fd ["script"] (spBag K) := by
  refine F.ok scBag (fun vs H Q E h => ?_) (fun cdv A outer s H vs Q E hr h => ?_)
  · obtain ⟨a, ns, rfl, _⟩ := h
    rfl
  · obtain ⟨a, ns, rfl, hS, hl, q⟩ := h
    refine ⟨_, pss_one (ps_ret (pe_lst (pa_cons pe_int (pa_cons pe_int (pa_cons pe_int (pa_cons (pe_lc (own := [("cell", 1)]) (g := gName 1) rfl scBag.nd (pi_list (pe_slice sl_list (pv 0) po_none (po_some pe_int))) (blkOk_by (N := ["script", "cell"]) (sc := defScope sBag) (by decide +kernel))
      (fun _ _ _ _ _ => pg_name (i := 1) scBag.nd rfl (Or.inl rfl)) (fun _ _ _ _ _ => pts_nil) (fun _ _ _ _ _ => pe_callB call_abs (by rfl) mA (by decide +kernel) (pa_cons (pv 1) pa_nil))) pa_nil)))))), ?_⟩
    refine ⟨.ref a, rfl, 63, rfl, a, _, rfl, hS, fun p np => ⟨p, rfl, ⟨_, .inl (.inl upd_same)⟩, fun D nD => ?_⟩⟩
    generalize hzs : cutV (ns.map V.int) none (some 63) = zs at nD ⊢
    have hz : zs.length ≤ 63 := by
      rw [← hzs]
      refine Nat.le_trans (cutV_length _ _ _) ?_
      rw [List.length_map]
      exact hl
    have hint : ∀ v ∈ zs, ∃ c, v = V.int c := by
      intro v hv
      rw [← hzs] at hv
      obtain ⟨c, _, e⟩ := List.mem_map.mp (List.mem_of_mem_drop (List.mem_of_mem_take hv))
      exact ⟨c, e.symm⟩
    have pD : p ≠ D := ne_of_none upd_same nD
    have nDH : H D = none := by
      cases z : H D with
      | none => rfl
      | some o =>
        have := new_ne (u := .lst zs) z np
        rw [nD] at this
        cases this
    refine lc_list (K := K) (a := p) (xs := zs) (fun i Hc => ∃ cs : List Int, Hc D = some (.lst (cs.map V.int)) ∧ cs.length = i ∧ (∀ c ∈ cs, 0 ≤ c) ∧ Same H Hc ∧ Hc p = some (.lst zs))
      ⟨[], upd_same, rfl, fun c hc => (by cases hc), (new_same np).trans (new_same nD), new_ne upd_same nD⟩ (fun i Hc _ ⟨cs, _, _, _, _, hp⟩ => .inl (.inl hp)) (fun i x Hc hx ⟨cs, h1, h2, h3, h4, h5⟩ => ?_) (fun Hc ⟨cs, h1, h2, h3, h4, h5⟩ => ?_)
    · obtain ⟨c, rfl⟩ := hint x (List.mem_of_getElem? hx)
      refine ⟨rfl, _, rfl, c, rfl, cs.map V.int, h1, ?_, cs ++ [if c < 0 then -c else c], ?_, ?_, fun z hz => ?_, ?_, ?_⟩
      · have := (List.getElem?_eq_some_iff.mp hx).1
        rw [List.length_map, sizeLine_eq]
        omega
      · rw [upd_same, List.map_append]
        rfl
      · rw [List.length_append, h2]
        rfl
      · rcases List.mem_append.mp hz with e | e
        · exact h3 z e
        · rw [List.mem_singleton] at e
          subst e
          split <;> omega
      · intro y o e
        have : y ≠ D := ne_of_none e nDH
        rw [upd_ne this]
        exact h4 y o e
      · rw [upd_ne pD]
        exact h5
    · refine ⟨by show 4 ≤ sizeLine; decide, fun b nb => q _ b (h4.trans (new_same nb)) ?_ ⟨0, 1234567891, 0, D, cs, upd_same, ?_, ne_of_none h1 nb, by decide, by decide, by decide, by omega, h3⟩⟩
      · cases z : H b with
        | none => rfl
        | some o =>
          have := h4 b o z
          rw [nb] at this
          cases this
      · exact new_ne h1 nb
end
end V66
/-! Comprehensions whose turns only add objects: the list that comes of them. -/
namespace RX
open PySem PySem.Spec PyProof.Rows L2
theorem kits (K : PySem.W.Frag) : (∀ T ∈ ["NoneType", "bool", "int", "str", "list", "dict", "tuple"], PySem.W.kitOne K (.type T) (.type "int") = some (decide (T = "int" ∨ T = "bool")) ∧ PySem.W.kitOne K (.type T) (.type "bool") = some (decide (T = "bool")) ∧
    PySem.W.kitOne K (.type T) (.type "str") = some (decide (T = "str")) ∧ PySem.W.kitOne K (.type T) (.type "tuple") = some (decide (T = "tuple"))) := by
  intro T hT
  simp only [List.mem_cons, List.not_mem_nil, or_false] at hT
  rcases hT with rfl | rfl | rfl | rfl | rfl | rfl | rfl <;> exact ⟨kit_ty (by decide +kernel), kit_ty (by decide +kernel), kit_ty (by decide +kernel), kit_ty (by decide +kernel)⟩
abbrev mid (t : TE) : TE := fun σ H Q => ∃ M : V → Hp → Prop, t σ H M ∧ ∀ x H', M x H' → Q x H'
abbrev midT (t : TT) : TT := fun σ H Q => ∃ M : Bool → Hp → Prop, t σ H M ∧ ∀ c H', M c H' → Q c H'
theorem pd_imp {α β : Type} {F G : α → β → Prop} (h : ∀ x y, F x y → G x y) : ∀ {xs : List α} {ys : List β}, Paired F xs ys → Paired G xs ys
  | _, _, .nil => .nil
  | _, _, .cons a b => .cons (h _ _ a) (pd_imp h b)
theorem pd_snoc {α β : Type} {F : α → β → Prop} {x : α} {y : β} (h : F x y) : ∀ {xs : List α} {ys : List β}, Paired F xs ys → Paired F (xs ++ [x]) (ys ++ [y])
  | _, _, .nil => .cons h .nil
  | _, _, .cons a b => .cons a (pd_snoc h b)
theorem pd_len {α β : Type} {F : α → β → Prop} : ∀ {xs : List α} {ys : List β}, Paired F xs ys → xs.length = ys.length
  | _, _, .nil => rfl
  | _, _, .cons a b => by rw [List.length_cons, List.length_cons, pd_len b]
theorem same_upd {H0 H : Hp} {D : Addr} {o : HO} (nD : H0 D = none) (s : Same H0 H) : Same H0 (upd H D o) := fun a u e => by
  rw [upd_ne (ne_of_none e nD)]
  exact s a u e
theorem kp_upd {H : Hp} {D : Addr} {zs : List V} {o : HO} (h : H D = some (.lst zs)) : Kp D H (upd H D o) := fun a u e n1 n2 => by
  by_cases z : a = D
  · subst z
    rw [h] at e
    cases e
    exact absurd rfl (n1 _ rfl)
  · rw [upd_ne z]; exact e
theorem kp_same {b : Addr} {H H' : Hp} (s : Same H H') : Kp b H H' := fun a o e _ _ => s a o e
section
variable {J : It} {n : Nat} {G : Hp → Prop} {xs : List V} {t : TE} {t2 : TT} {i : Nat} {vs : List Nat} {σ : L2.St} {H0 : Hp} {D : Addr} {Qd : Hp → Prop}
/-- [t for x in xs] -/
theorem lc_map (w : Walk J n G (YAt xs)) (Gp : V → V → Hp → Prop) (nD : H0 D = none) (hn : xs.length = n) (few : n ≤ 16000000) (hG : ∀ H, Same H0 H → G H) (st : ∀ x y H H', Kp D H H' → Gp x y H → Gp x y H')
    (hw : ∀ x, wipe ((wipe σ vs).set i (some x)) vs = wipe σ vs)
    (hs : ∀ (j : Nat) x Hc, xs[j]? = some x → Same H0 Hc → (∃ zs, Hc D = some (.lst zs)) → t ((wipe σ vs).set i (some x)) Hc (fun y H4 => Same Hc H4 ∧ Gp x y H4))
    (hd : ∀ H' ys, Same H0 H' → H' D = some (.lst ys) → Paired (fun x y => Gp x y H') xs ys → Qd H') :
    ∃ W : Nat → Nat → Hp → Prop, (∃ m, W 0 m (upd H0 D (.lst []))) ∧ ∀ j m H, W j m H →
      (J.stop j H ∧ Qd H) ∨ (J.go j H ∧ ∃ Nx : Hp → Prop, (∀ H', Nx H' → ∃ m', m' < m ∧ W (j + 1) m' H') ∧ ∀ x H', J.yld j H x H' → gName i x (wipe σ vs) H' fun σ2 H2 => wipe σ2 vs = wipe σ vs ∧ tYes σ2 H2 fun b H3 =>
        if b = true then mid t σ2 H3 fun y H4 => ∃ acc, H4 D = some (.lst acc) ∧ acc.length < sizeLine ∧ Nx (upd H4 D (.lst (acc ++ [y]))) else Nx H3) := by
  refine lc_it w (fun j Hc => ∃ ys, Hc D = some (.lst ys) ∧ Same H0 Hc ∧ Paired (fun x y => Gp x y Hc) (xs.take j) ys) ⟨[], upd_same, new_same nD, by rw [List.take_zero]; exact .nil⟩ (fun j H _ h => let ⟨_, _, s, _⟩ := h; hG H s) ?_ ?_
  · rintro j x H H' hj ⟨ys, h1, s, p⟩ ⟨rfl, hx⟩
    refine ⟨hw x, _, hs j x H' hx s ⟨_, h1⟩, fun y H4 h4 => ?_⟩
    obtain ⟨s4, g⟩ := h4
    have l := pd_len p
    rw [List.length_take] at l
    refine ⟨ys, s4 _ _ h1, by rw [sizeLine_eq]; omega, ys ++ [y], upd_same, same_upd nD (fun a o e => s4 _ _ (s a o e)), ?_⟩
    have k : Kp D H4 (upd H4 D (.lst (ys ++ [y]))) := kp_upd (s4 _ _ h1)
    rw [List.take_add_one, hx]
    exact pd_snoc (F := fun x z => Gp x z (upd H4 D (.lst (ys ++ [y])))) (st _ _ _ _ k g) (pd_imp (fun x y g => st _ _ _ _ k (st _ _ _ _ (kp_same s4) g)) p)
  · rintro H ⟨ys, h1, s, p⟩
    rw [List.take_of_length_le (by omega)] at p
    exact hd H ys s h1 p
/-- [t for x in xs if t2] -/
theorem lc_filt (w : Walk J n G (YAt xs)) (p : V → Bool) (Gp : V → V → Hp → Prop) (nD : H0 D = none) (hn : xs.length = n) (few : n ≤ 16000000) (hG : ∀ H, Same H0 H → G H) (st : ∀ x y H H', Kp D H H' → Gp x y H → Gp x y H')
    (hw : ∀ x, wipe ((wipe σ vs).set i (some x)) vs = wipe σ vs)
    (hs : ∀ (j : Nat) x Hc, xs[j]? = some x → Same H0 Hc → (∃ zs, Hc D = some (.lst zs)) → t2 ((wipe σ vs).set i (some x)) Hc (fun c H3 => Same Hc H3 ∧ c = p x) ∧
      (p x = true → ∀ H3, Same Hc H3 → t ((wipe σ vs).set i (some x)) H3 (fun y H4 => Same H3 H4 ∧ Gp x y H4)))
    (hd : ∀ H' ys, Same H0 H' → H' D = some (.lst ys) → Paired (fun x y => Gp x y H') (xs.filter p) ys → Qd H') :
    ∃ W : Nat → Nat → Hp → Prop, (∃ m, W 0 m (upd H0 D (.lst []))) ∧ ∀ j m H, W j m H →
      (J.stop j H ∧ Qd H) ∨ (J.go j H ∧ ∃ Nx : Hp → Prop, (∀ H', Nx H' → ∃ m', m' < m ∧ W (j + 1) m' H') ∧ ∀ x H', J.yld j H x H' → gName i x (wipe σ vs) H' fun σ2 H2 => wipe σ2 vs = wipe σ vs ∧ midT t2 σ2 H2 fun b H3 =>
        if b = true then mid t σ2 H3 fun y H4 => ∃ acc, H4 D = some (.lst acc) ∧ acc.length < sizeLine ∧ Nx (upd H4 D (.lst (acc ++ [y]))) else Nx H3) := by
  refine lc_it w (fun j Hc => ∃ ys, Hc D = some (.lst ys) ∧ Same H0 Hc ∧ Paired (fun x y => Gp x y Hc) ((xs.take j).filter p) ys) ⟨[], upd_same, new_same nD, by rw [List.take_zero]; exact .nil⟩ (fun j H _ h => let ⟨_, _, s, _⟩ := h; hG H s) ?_ ?_
  · rintro j x H H' hj ⟨ys, h1, s, q⟩ ⟨rfl, hx⟩
    obtain ⟨k1, k2⟩ := hs j x H' hx s ⟨_, h1⟩
    refine ⟨hw x, _, k1, fun c H3 h3 => ?_⟩
    obtain ⟨s3, rfl⟩ := h3
    have e1 : (xs.take (j + 1)).filter p = (xs.take j).filter p ++ if p x = true then [x] else [] := by
      rw [List.take_add_one, hx, List.filter_append]
      show _ ++ List.filter p [x] = _
      rw [List.filter_cons, List.filter_nil]
    have s03 : Same H0 H3 := fun a o e => s3 _ _ (s a o e)
    have q3 := pd_imp (fun x y g => st _ _ _ _ (kp_same s3) g) q
    by_cases e : p x = true
    · rw [if_pos e] at e1
      rw [if_pos e]
      refine ⟨_, k2 e H3 s3, fun y H4 h4 => ?_⟩
      obtain ⟨s4, g⟩ := h4
      have l := pd_len q
      have l2 := List.length_filter_le p (xs.take j)
      rw [List.length_take] at l2
      refine ⟨ys, s4 _ _ (s3 _ _ h1), by rw [sizeLine_eq]; omega, ys ++ [y], upd_same, same_upd nD (fun a o e => s4 _ _ (s03 a o e)), ?_⟩
      have k : Kp D H4 (upd H4 D (.lst (ys ++ [y]))) := kp_upd (s4 _ _ (s3 _ _ h1))
      rw [e1]
      exact pd_snoc (F := fun x z => Gp x z (upd H4 D (.lst (ys ++ [y])))) (st _ _ _ _ k g) (pd_imp (fun x y g => st _ _ _ _ k (st _ _ _ _ (kp_same s4) g)) q3)
    · rw [if_neg e, List.append_nil] at e1
      rw [if_neg e]
      exact ⟨ys, s3 _ _ h1, s03, by rw [e1]; exact q3⟩
  · rintro H ⟨ys, h1, s, q⟩
    rw [List.take_of_length_le (by omega)] at q
    exact hd H ys s h1 q
end
end RX
/-! Values as plain data: what stands for them on an abstract heap, apart from some places; frames of a def. -/
namespace VL
open PySem PySem.Spec PyProof.Rows L2 RX
/-- places that are not to be met (lists and dicts that somebody changes), the bag's place -/
structure Geo where
  O : Addr → Prop
  b : Addr
mutual
inductive Rp (g : Geo) (H : Hp) : V → Dt → Prop
  | non : Rp g H .non .non
  | bl (c : Bool) : Rp g H (.bl c) (.bl c)
  | int (i : Int) : Rp g H (.int i) (.int i)
  | str (x : PySem.Str) : Rp g H (.str x) (.str x)
  | lst {a : Addr} {xs : List V} {ds : List Dt} (n : ¬ g.O a) (h : H a = some (.lst xs)) (k : RpAll g H xs ds) : Rp g H (.ref a) (.lst ds)
  | tup {a : Addr} {xs : List V} {ds : List Dt} (n : ¬ g.O a) (h : H a = some (.tup xs)) (k : RpAll g H xs ds) : Rp g H (.ref a) (.tup ds)
  | fup {a : Addr} {o : Obj} {xs : List V} {ds : List Dt} (n : ¬ g.O a) (h : H a = some (.frz o (.tup xs))) (e : o.dict = none) (k : RpAll g H xs ds) : Rp g H (.ref a) (.fup ds)
  | dic {a : Addr} {ks : List (PySem.Str × V)} {ds : List Dt} (n : ¬ g.O a) (h : Rd H a (.dK (kk ks))) (nd : (ks.map (·.1)).Nodup) (k : RpAll g H (ks.map (·.2)) ds) : Rp g H (.ref a) (.dic (ks.map (·.1)) ds)
inductive RpAll (g : Geo) (H : Hp) : List V → List Dt → Prop
  | nil : RpAll g H [] []
  | cons {v : V} {vs : List V} {d : Dt} {ds : List Dt} (h : Rp g H v d) (t : RpAll g H vs ds) : RpAll g H (v :: vs) (d :: ds)
end
section
variable {g g' : Geo} {H H' : Hp}
mutual
theorem Rp.mono (k : ∀ a o, ¬ g.O a → H a = some o → H' a = some o ∧ ¬ g'.O a) : ∀ (d : Dt) (v : V), Rp g H v d → Rp g' H' v d
  | .non, v, h => by cases h; exact .non
  | .bl c, v, h => by cases h; exact .bl c
  | .int i, v, h => by cases h; exact .int i
  | .str x, v, h => by cases h; exact .str x
  | .lst ds, v, h => by
    cases h with
    | lst n h t => exact .lst (k _ _ n h).2 (k _ _ n h).1 (RpAll.mono k ds _ t)
  | .tup ds, v, h => by
    cases h with
    | tup n h t => exact .tup (k _ _ n h).2 (k _ _ n h).1 (RpAll.mono k ds _ t)
  | .fup ds, v, h => by
    cases h with
    | fup n h e t => exact .fup (k _ _ n h).2 (k _ _ n h).1 e (RpAll.mono k ds _ t)
  | .dic ks ds, v, h => by
    cases h with
    | dic n h nd t =>
      obtain ⟨o, ho⟩ := rd_at h
      exact .dic (k _ _ n ho).2 (rd_map (fun o h => (k _ o n h).1) h) nd (RpAll.mono k ds _ t)
theorem RpAll.mono (k : ∀ a o, ¬ g.O a → H a = some o → H' a = some o ∧ ¬ g'.O a) : ∀ (ds : List Dt) (vs : List V), RpAll g H vs ds → RpAll g' H' vs ds
  | [], vs, h => by cases h; exact .nil
  | d :: ds, vs, h => by
    cases h with
    | cons h t => exact .cons (Rp.mono k d _ h) (RpAll.mono k ds _ t)
end
mutual
theorem Rp.rx (hb : g.O g.b) : ∀ (d : Dt) (v : V), Rp g H v d → RX.Rp g.b H v d
  | .non, v, h => by cases h; exact .non
  | .bl c, v, h => by cases h; exact .bl c
  | .int i, v, h => by cases h; exact .int i
  | .str x, v, h => by cases h; exact .str x
  | .lst ds, v, h => by
    cases h with
    | lst n h t => exact .lst (fun e => n (e ▸ hb)) h (RpAll.rx hb ds _ t)
  | .tup ds, v, h => by
    cases h with
    | tup n h t => exact .tup h (RpAll.rx hb ds _ t)
  | .fup ds, v, h => by
    cases h with
    | fup n h e t => exact .fup h e (RpAll.rx hb ds _ t)
  | .dic ks ds, v, h => by
    cases h with
    | dic n h nd t => exact .dic (fun e => n (e ▸ hb)) h nd (RpAll.rx hb ds _ t)
theorem RpAll.rx (hb : g.O g.b) : ∀ (ds : List Dt) (vs : List V), RpAll g H vs ds → RX.RpAll g.b H vs ds
  | [], vs, h => by cases h; exact .nil
  | d :: ds, vs, h => by
    cases h with
    | cons h t => exact .cons (Rp.rx hb d _ h) (RpAll.rx hb ds _ t)
end
theorem RpAll.len : ∀ {vs : List V} {ds : List Dt}, RpAll g H vs ds → vs.length = ds.length
  | _, _, .nil => rfl
  | _, _, .cons _ t => by rw [List.length_cons, List.length_cons, t.len]
theorem RpAll.get : ∀ {vs : List V} {ds : List Dt} {i : Nat} {d : Dt}, RpAll g H vs ds → ds[i]? = some d → ∃ v, vs[i]? = some v ∧ Rp g H v d
  | _, _, _, _, .nil, h => by simp at h
  | _, _, 0, _, .cons a _, h => by simp at h; subst h; exact ⟨_, rfl, a⟩
  | _, _, i + 1, _, .cons _ t, h => t.get (i := i) (by simpa using h)
theorem RpAll.gt : ∀ {vs : List V} {ds : List Dt} {i : Nat} {v : V}, RpAll g H vs ds → vs[i]? = some v → ∃ d, ds[i]? = some d ∧ Rp g H v d
  | _, _, _, _, .nil, h => by simp at h
  | _, _, 0, _, .cons a _, h => by simp at h; subst h; exact ⟨_, rfl, a⟩
  | _, _, i + 1, _, .cons _ t, h => t.gt (i := i) (by simpa using h)
theorem RpAll.app : ∀ {vs us : List V} {ds es : List Dt}, RpAll g H vs ds → RpAll g H us es → RpAll g H (vs ++ us) (ds ++ es)
  | _, _, _, _, .nil, k => k
  | _, _, _, _, .cons a t, k => .cons a (t.app k)
theorem RpAll.take : ∀ {vs : List V} {ds : List Dt} (n : Nat), RpAll g H vs ds → RpAll g H (vs.take n) (ds.take n)
  | _, _, 0, _ => .nil
  | _, _, _ + 1, .nil => .nil
  | _, _, n + 1, .cons a t => .cons a (t.take n)
theorem RpAll.drop : ∀ {vs : List V} {ds : List Dt} (n : Nat), RpAll g H vs ds → RpAll g H (vs.drop n) (ds.drop n)
  | _, _, 0, r => r
  | _, _, _ + 1, .nil => .nil
  | _, _, n + 1, .cons _ t => t.drop n
theorem RpAll.rev {vs : List V} {ds : List Dt} (h : RpAll g H vs ds) : RpAll g H vs.reverse ds.reverse := by
  induction h using RpAll.rec (motive_1 := fun _ _ _ => True) with
  | nil => exact .nil
  | cons a t _ ih => rw [List.reverse_cons, List.reverse_cons]; exact ih.app (.cons a .nil)
  | _ => trivial
theorem RpAll.set : ∀ {vs : List V} {ds : List Dt} {v : V} {d : Dt} (n : Nat), RpAll g H vs ds → Rp g H v d → RpAll g H (vs.set n v) (ds.set n d)
  | _, _, _, _, _, .nil, _ => .nil
  | _, _, _, _, 0, .cons _ t, h => .cons h t
  | _, _, _, _, n + 1, .cons a t, h => .cons a (t.set n h)
theorem Rp.int_inv {v : V} {i : Int} (h : Rp g H v (.int i)) : v = .int i := by cases h; rfl
theorem Rp.str_inv {v : V} {x : PySem.Str} (h : Rp g H v (.str x)) : v = .str x := by cases h; rfl
theorem Rp.bl_inv {v : V} {c : Bool} (h : Rp g H v (.bl c)) : v = .bl c := by cases h; rfl
theorem Rp.non_inv {v : V} (h : Rp g H v .non) : v = .non := by cases h; rfl
theorem Rp.tup_inv {v : V} {ds : List Dt} (h : Rp g H v (.tup ds)) : ∃ a xs, v = .ref a ∧ ¬ g.O a ∧ H a = some (.tup xs) ∧ RpAll g H xs ds := by cases h with | tup n h k => exact ⟨_, _, rfl, n, h, k⟩
theorem Rp.fup_inv {v : V} {ds : List Dt} (h : Rp g H v (.fup ds)) : ∃ a o xs, v = .ref a ∧ ¬ g.O a ∧ H a = some (.frz o (.tup xs)) ∧ o.dict = none ∧ RpAll g H xs ds := by cases h with | fup n h e k => exact ⟨_, _, _, rfl, n, h, e, k⟩
theorem Rp.lst_inv {v : V} {ds : List Dt} (h : Rp g H v (.lst ds)) : ∃ a xs, v = .ref a ∧ ¬ g.O a ∧ H a = some (.lst xs) ∧ RpAll g H xs ds := by cases h with | lst n h k => exact ⟨_, _, rfl, n, h, k⟩
theorem Rp.dic_inv {v : V} {ks : List PySem.Str} {ds : List Dt} (h : Rp g H v (.dic ks ds)) : ∃ a kv, v = .ref a ∧ ¬ g.O a ∧ Rd H a (.dK (kk kv)) ∧ (kv.map (·.1)).Nodup ∧ kv.map (·.1) = ks ∧ RpAll g H (kv.map (·.2)) ds := by
  cases h with | dic n h nd k => exact ⟨_, _, rfl, n, h, nd, rfl, k⟩
end
/-- what must hold of the places: the bag is there, all places are taken -/
structure Ctx (g : Geo) (H : Hp) : Prop where
  ob : g.O g.b
  bag : Bag H g.b
  al : ∀ a, g.O a → ∃ o, H a = some o
  ol : ∀ l, Own H g.b l → g.O l
/-- from H to H': all but the bag is as it was -/
structure Nxt (g : Geo) (H H' : Hp) : Prop where
  c : Chb g.b H H'
  bag : Bag H' g.b
section
variable {g g' : Geo} {H H' H2 : Hp}
theorem Ctx.b_some (h : Ctx g H) : ∃ o, H g.b = some o := h.al _ h.ob
theorem Own.fn {b l l' : Addr} {H : Hp} (h : Own H b l) (k : Own H b l') : l = l' := by
  obtain ⟨_, _, _, e⟩ := h
  obtain ⟨_, _, _, e'⟩ := k
  rw [e] at e'
  cases e'
  rfl
theorem Ctx.nxt (h : Ctx g H) (n : Nxt g H H') : Ctx g H' := by
  refine ⟨h.ob, n.bag, fun a ha => ?_, fun l hl => ?_⟩
  · by_cases e : a = g.b
    · rw [e]; exact n.bag.lst
    · obtain ⟨o, ho⟩ := h.al a ha
      exact ⟨o, n.c.app a o e ho⟩
  · obtain ⟨l', cs, ow, _⟩ := h.bag.own
    have := ow.chb n.c
    rw [Own.fn hl this]
    exact h.ol _ ow
theorem Nxt.refl (h : Ctx g H) : Nxt g H H := ⟨.refl, h.bag⟩
theorem Nxt.trans (h : Nxt g H H') (k : Nxt g H' H2) : Nxt g H H2 := ⟨h.c.trans k.c, k.bag⟩
theorem Nxt.new (h : Ctx g H) {p : Addr} {o : HO} (np : H p = none) : Nxt g H (upd H p o) := ⟨Chb.new np, h.bag.same (new_same np)⟩
theorem Nxt.same (h : Ctx g H) (s : Same H H') : Nxt g H H' := ⟨Chb.same s, h.bag.same s⟩
theorem Rp.nxt (h : Ctx g H) (n : Nxt g H H') {v : V} {d : Dt} (r : Rp g H v d) : Rp g H' v d :=
  Rp.mono (fun a o no e => ⟨n.c.app a o (fun z => no (z ▸ h.ob)) e, no⟩) d v r
theorem RpAll.nxt (h : Ctx g H) (n : Nxt g H H') {v : List V} {d : List Dt} (r : RpAll g H v d) : RpAll g H' v d :=
  RpAll.mono (fun a o no e => ⟨n.c.app a o (fun z => no (z ▸ h.ob)) e, no⟩) d v r
theorem Rp.less (h : ∀ a, g'.O a → g.O a) {v : V} {d : Dt} (r : Rp g H v d) : Rp g' H v d := Rp.mono (fun a o no e => ⟨e, fun z => no (h a z)⟩) d v r
theorem RpAll.less (h : ∀ a, g'.O a → g.O a) {v : List V} {d : List Dt} (r : RpAll g H v d) : RpAll g' H v d := RpAll.mono (fun a o no e => ⟨e, fun z => no (h a z)⟩) d v r
end
/-- g and one place more -/
def Geo.and (g : Geo) (a : Addr) : Geo := ⟨fun x => g.O x ∨ x = a, g.b⟩
def Geo.but (g : Geo) (a : Addr) : Geo := ⟨fun x => g.O x ∧ x ≠ a, g.b⟩
section
variable {g : Geo} {H H' : Hp} {a : Addr} {o : HO}
theorem Ctx.and (h : Ctx g H) (ha : H a = some o) : Ctx (g.and a) H :=
  ⟨.inl h.ob, h.bag, fun x hx => hx.elim (h.al x) fun e => ⟨o, e ▸ ha⟩, fun l hl => .inl (h.ol l hl)⟩
theorem Ctx.but (h : Ctx g H) (hb : a ≠ g.b) (hl : ¬ Own H g.b a) : Ctx (g.but a) H :=
  ⟨⟨h.ob, hb.symm⟩, h.bag, fun x hx => h.al x hx.1, fun l hl' => ⟨h.ol l hl', fun e => hl (e ▸ hl')⟩⟩
theorem Rp.and (h : Ctx g H) (na : H a = none) {v : V} {d : Dt} (r : Rp g H v d) : Rp (g.and a) (upd H a o) v d :=
  Rp.mono (fun x u no e => ⟨new_ne e na, fun z => Or.elim (show g.O x ∨ x = a from z) no fun z => by rw [z, na] at e; cases e⟩) d v r
theorem RpAll.and (h : Ctx g H) (na : H a = none) {v : List V} {d : List Dt} (r : RpAll g H v d) : RpAll (g.and a) (upd H a o) v d :=
  RpAll.mono (fun x u no e => ⟨new_ne e na, fun z => Or.elim (show g.O x ∨ x = a from z) no fun z => by rw [z, na] at e; cases e⟩) d v r
theorem RpAll.out {v : List V} {d : List Dt} (r : RpAll (g.and a) H v d) : RpAll g H v d := r.less (g := g.and a) fun x h => Or.inl (b := x = a) h
theorem Rp.out {v : V} {d : Dt} (r : Rp (g.and a) H v d) : Rp g H v d := r.less (g := g.and a) fun x h => Or.inl (b := x = a) h
/-- nothing that is represented changes where only a changes -/
theorem RpAll.chg {v : List V} {d : List Dt} (ha : g.O a) (r : RpAll g H v d) : RpAll g (upd H a o) v d :=
  RpAll.mono (fun x u no e => ⟨by rw [upd_ne (fun z : x = a => no (z ▸ ha))]; exact e, no⟩) d v r
theorem Rp.chg {v : V} {d : Dt} (ha : g.O a) (r : Rp g H v d) : Rp g (upd H a o) v d :=
  Rp.mono (fun x u no e => ⟨by rw [upd_ne (fun z : x = a => no (z ▸ ha))]; exact e, no⟩) d v r
end
/-- what a changed thing at a holds -/
def OwnC (g : Geo) (H : Hp) (a : Addr) : Dt → Prop
  | .lst ds => ∃ xs, H a = some (.lst xs) ∧ RpAll g H xs ds
  | .dic ks ds => ∃ kv : List (PySem.Str × V), H a = some (.dK (kk kv)) ∧ (kv.map (·.1)).Nodup ∧ kv.map (·.1) = ks ∧ RpAll g H (kv.map (·.2)) ds
  | _ => False
/-- a value to be looked into: as data, or a changed thing -/
def Rpc (g : Geo) (H : Hp) (v : V) (d : Dt) : Prop := Rp g H v d ∨ ∃ a, v = .ref a ∧ a ≠ g.b ∧ OwnC g H a d
section
variable {g g' : Geo} {H H' : Hp} {a : Addr} {d : Dt}
theorem OwnC.at_ (h : OwnC g H a d) : ∃ o, H a = some o := by
  cases d <;> first | exact h.elim | (obtain ⟨_, e, _⟩ := h; exact ⟨_, e⟩)
theorem OwnC.mono (k : ∀ a o, ¬ g.O a → H a = some o → H' a = some o ∧ ¬ g'.O a) (ka : ∀ o, H a = some o → H' a = some o) (h : OwnC g H a d) : OwnC g' H' a d := by
  cases d with
  | lst ds => obtain ⟨xs, e, r⟩ := h; exact ⟨xs, ka _ e, RpAll.mono k _ _ r⟩
  | dic ks ds => obtain ⟨kv, e, nd, ek, r⟩ := h; exact ⟨kv, ka _ e, nd, ek, RpAll.mono k _ _ r⟩
  | _ => exact h.elim
theorem OwnC.nxt (h : Ctx g H) (n : Nxt g H H') (na : a ≠ g.b) (r : OwnC g H a d) : OwnC g H' a d :=
  r.mono (fun a o no e => ⟨n.c.app a o (fun z => no (z ▸ h.ob)) e, no⟩) fun o e => n.c.app _ _ na e
theorem OwnC.rp (h : OwnC (g.and a) H a d) (na : ¬ g.O a) : Rp g H (.ref a) d := by
  cases d with
  | lst ds => obtain ⟨xs, e, r⟩ := h; exact .lst na e r.out
  | dic ks ds => obtain ⟨kv, e, nd, ek, r⟩ := h; subst ek; exact .dic na (.inl e) nd r.out
  | _ => exact h.elim
theorem Rpc.nxt (h : Ctx g H) (n : Nxt g H H') {v : V} (r : Rpc g H v d) : Rpc g H' v d :=
  r.elim (fun r => .inl (r.nxt h n)) fun ⟨a, e, na, r⟩ => .inr ⟨a, e, na, r.nxt h n na⟩
theorem Rpc.lst {v : V} {ds : List Dt} (r : Rpc g H v (.lst ds)) : ∃ a xs, v = .ref a ∧ H a = some (.lst xs) ∧ RpAll g H xs ds := by
  rcases r with r | ⟨a, e, na, xs, h, k⟩
  · obtain ⟨a, xs, e, n, h, k⟩ := r.lst_inv; exact ⟨a, xs, e, h, k⟩
  · exact ⟨a, xs, e, h, k⟩
theorem Rpc.tup {v : V} {ds : List Dt} (r : Rpc g H v (.tup ds)) : ∃ a xs, v = .ref a ∧ H a = some (.tup xs) ∧ RpAll g H xs ds := by
  rcases r with r | ⟨a, e, na, h⟩
  · obtain ⟨a, xs, e, n, h, k⟩ := r.tup_inv; exact ⟨a, xs, e, h, k⟩
  · exact h.elim
theorem Rpc.fup {v : V} {ds : List Dt} (r : Rpc g H v (.fup ds)) : ∃ a o xs, v = .ref a ∧ H a = some (.frz o (.tup xs)) ∧ o.dict = none ∧ RpAll g H xs ds := by
  rcases r with r | ⟨a, e, na, h⟩
  · obtain ⟨a, o, xs, e, n, h, d, k⟩ := r.fup_inv; exact ⟨a, o, xs, e, h, d, k⟩
  · exact h.elim
theorem Rpc.dic {v : V} {ks : List PySem.Str} {ds : List Dt} (r : Rpc g H v (.dic ks ds)) : ∃ a kv, v = .ref a ∧ Rd H a (.dK (kk kv)) ∧ (kv.map (·.1)).Nodup ∧ kv.map (·.1) = ks ∧ RpAll g H (kv.map (·.2)) ds := by
  rcases r with r | ⟨a, e, na, kv, h, nd, ek, k⟩
  · obtain ⟨a, kv, e, n, h, nd, ek, k⟩ := r.dic_inv; exact ⟨a, kv, e, h, nd, ek, k⟩
  · exact ⟨a, kv, e, .inl h, nd, ek, k⟩
theorem Rpc.int {v : V} {i : Int} (r : Rpc g H v (.int i)) : v = .int i := by
  rcases r with r | ⟨a, e, na, h⟩
  · exact r.int_inv
  · exact h.elim
theorem Rpc.str {v : V} {i : PySem.Str} (r : Rpc g H v (.str i)) : v = .str i := by
  rcases r with r | ⟨a, e, na, h⟩
  · exact r.str_inv
  · exact h.elim
theorem Rpc.bl {v : V} {i : Bool} (r : Rpc g H v (.bl i)) : v = .bl i := by
  rcases r with r | ⟨a, e, na, h⟩
  · exact r.bl_inv
  · exact h.elim
theorem Rpc.non {v : V} (r : Rpc g H v .non) : v = .non := by
  rcases r with r | ⟨a, e, na, h⟩
  · exact r.non_inv
  · exact h.elim
end
/-- a slot: data, a thing of the def's own that it changes, the bag -/
inductive W where
  | d (x : Dt) | own (x : Dt) | ro (x : Dt) | bag
abbrev Ev := List (Option W)
/-- a def's frame: the places at its entry, the heap then -/
structure Fr where
  g : Geo
  H : Hp
def RW (f : Fr) (O : Addr → Prop) (H : Hp) (v : V) : W → Prop
  | .d x => Rp ⟨O, f.g.b⟩ H v x
  | .own x => ∃ a, v = .ref a ∧ O a ∧ f.H a = none ∧ OwnC ⟨O, f.g.b⟩ H a x
  | .ro x => ∃ a, v = .ref a ∧ a ≠ f.g.b ∧ f.g.O a ∧ OwnC ⟨O, f.g.b⟩ H a x
  | .bag => v = .ref f.g.b
structure Rel (f : Fr) (O : Addr → Prop) (H : Hp) (σ : L2.St) (ρ : Ev) : Prop where
  len : σ.length = ρ.length
  ctx : Ctx ⟨O, f.g.b⟩ H
  ctx0 : Ctx f.g f.H
  frm : Chb f.g.b f.H H
  sub : ∀ a, f.g.O a → O a
  sl : ∀ (i : Nat) (w : W), ρ[i]? = some (some w) → ∃ v, σ[i]? = some (some v) ∧ RW f O H v w
  apart : ∀ (i j : Nat) (x y : Dt) (a : Addr), ρ[i]? = some (some (.own x)) → ρ[j]? = some (some (.own y)) → σ[i]? = some (some (.ref a)) → σ[j]? = some (some (.ref a)) → i = j
section
variable {f : Fr} {O : Addr → Prop} {H H' : Hp} {σ : L2.St} {ρ : Ev}
abbrev gO (f : Fr) (O : Addr → Prop) : Geo := ⟨O, f.g.b⟩
theorem Rel.nb (r : Rel f O H σ ρ) {a : Addr} (h : f.H a = none) : a ≠ f.g.b := fun e => by
  obtain ⟨o, ho⟩ := r.ctx0.b_some
  rw [e, ho] at h
  cases h
theorem Rel.nl (r : Rel f O H σ ρ) {a : Addr} (h : f.H a = none) : ¬ Own H f.g.b a := fun e => by
  obtain ⟨l, cs, ow, hl, _⟩ := r.ctx0.bag.own
  have := Own.fn e (ow.chb r.frm)
  rw [this, hl] at h
  cases h
/-- a thing that is the caller's is none of the def's own -/
theorem Rel.rne (r : Rel f O H σ ρ) {a c : Addr} (h : f.g.O a) (k : f.H c = none) : a ≠ c := fun z => by
  obtain ⟨o, ho⟩ := r.ctx0.al a h
  rw [z, k] at ho
  cases ho
theorem Rel.nxt (r : Rel f O H σ ρ) (n : Nxt (gO f O) H H') : Rel f O H' σ ρ := by
  refine ⟨r.len, r.ctx.nxt n, r.ctx0, r.frm.trans n.c, r.sub, fun i w e => ?_, r.apart⟩
  obtain ⟨v, ev, rw'⟩ := r.sl i w e
  refine ⟨v, ev, ?_⟩
  cases w with
  | d x => exact Rp.nxt (g := gO f O) r.ctx n rw'
  | own x => obtain ⟨a, e1, e2, e3, e4⟩ := rw'; exact ⟨a, e1, e2, e3, OwnC.nxt (g := gO f O) r.ctx n (r.nb e3) e4⟩
  | ro x => obtain ⟨a, e1, e2, e3, e4⟩ := rw'; exact ⟨a, e1, e2, e3, OwnC.nxt (g := gO f O) r.ctx n e2 e4⟩
  | bag => exact rw'
/-- a new object that is to be changed -/
theorem Rel.and (r : Rel f O H σ ρ) {p : Addr} {o : HO} (np : H p = none) : Rel f (gO f O |>.and p).O (upd H p o) σ ρ := by
  have n : Nxt (gO f O) H (upd H p o) := .new r.ctx np
  refine ⟨r.len, (r.ctx.nxt n).and (upd_same (o := o)), r.ctx0, r.frm.trans n.c, fun a h => .inl (r.sub a h), fun i w e => ?_, r.apart⟩
  obtain ⟨v, ev, rw'⟩ := r.sl i w e
  refine ⟨v, ev, ?_⟩
  cases w with
  | d x => exact Rp.and (g := gO f O) r.ctx np rw'
  | own x =>
    obtain ⟨a, e1, e2, e3, e4⟩ := rw'
    refine ⟨a, e1, .inl e2, e3, OwnC.mono (g := gO f O) (fun x u no e => ⟨new_ne e np, fun z => Or.elim (show O x ∨ x = p from z) no fun z => by rw [z, np] at e; cases e⟩) (fun u e => new_ne e np) e4⟩
  | ro x =>
    obtain ⟨a, e1, e2, e3, e4⟩ := rw'
    refine ⟨a, e1, e2, e3, OwnC.mono (g := gO f O) (fun x u no e => ⟨new_ne e np, fun z => Or.elim (show O x ∨ x = p from z) no fun z => by rw [z, np] at e; cases e⟩) (fun u e => new_ne e np) e4⟩
  | bag => exact rw'
/-- the value of a slot -/
theorem Rel.setD (r : Rel f O H σ ρ) {i : Nat} {v : V} {d : Dt} (h : Rp (gO f O) H v d) : Rel f O H (σ.set i (some v)) (ρ.set i (some (.d d))) := by
  refine ⟨by rw [List.length_set, List.length_set]; exact r.len, r.ctx, r.ctx0, r.frm, r.sub, fun j w e => ?_, fun j k x y a e1 e2 e3 e4 => ?_⟩
  · by_cases ej : i = j
    · subst ej
      rw [List.getElem?_set] at e
      by_cases l : i < ρ.length
      · simp [l] at e; subst e
        exact ⟨v, by rw [List.getElem?_set]; simp [r.len, l], h⟩
      · simp [l] at e
    · rw [List.getElem?_set_ne ej] at e ⊢
      exact r.sl j w e
  · have nj : ∀ (j : Nat) (x : Dt), (ρ.set i (some (.d d)))[j]? = some (some (W.own x)) → i ≠ j := fun j x e z => by
      subst z
      rw [List.getElem?_set] at e
      by_cases l : i < ρ.length <;> simp [l] at e
    have h1 := nj j x e1
    have h2 := nj k y e2
    rw [List.getElem?_set_ne h1] at e1 e3
    rw [List.getElem?_set_ne h2] at e2 e4
    exact r.apart j k x y a e1 e2 e3 e4
theorem Rel.none_of (r : Rel f O H σ ρ) {a : Addr} (h : H a = none) : f.H a = none := by
  cases e : f.H a with
  | none => rfl
  | some o =>
    by_cases z : a = f.g.b
    · obtain ⟨o', ho⟩ := r.ctx.b_some
      rw [z] at h
      rw [show (gO f O).b = f.g.b from rfl] at ho
      rw [h] at ho; cases ho
    · have := r.frm.app a o z e
      rw [h] at this; cases this
/-- a slot gets a thing of its own -/
theorem Rel.setO (r : Rel f O H σ ρ) {i : Nat} {a : Addr} {d : Dt} {H' : Hp} (n : Nxt (gO f O) H H') (na : H a = none) (h : OwnC ((gO f O).and a) H' a d) : Rel f ((gO f O).and a).O H' (σ.set i (some (.ref a))) (ρ.set i (some (.own d))) := by
  have r' := r.nxt n
  obtain ⟨o, ho⟩ := h.at_
  have fresh : f.H a = none := r.none_of na
  have nO : ¬ O a := fun z => by
    obtain ⟨o, e⟩ := r.ctx.al a z
    rw [na] at e; cases e
  have up : ∀ v d, Rp (gO f O) H v d → Rp ((gO f O).and a) H' v d := fun v d h => Rp.mono (fun x u no e => ⟨n.c.app x u (fun z => no (z ▸ r.ctx.ob)) e, fun z => Or.elim (show O x ∨ x = a from z) no fun z => by rw [z, na] at e; cases e⟩) d v h
  refine ⟨by rw [List.length_set, List.length_set]; exact r.len, r'.ctx.and ho, r.ctx0, r'.frm, fun x hx => .inl (r.sub x hx), fun j w e => ?_, fun j k x y c e1 e2 e3 e4 => ?_⟩
  · by_cases ej : i = j
    · subst ej
      rw [List.getElem?_set] at e
      by_cases l : i < ρ.length
      · simp [l] at e; subst e
        exact ⟨.ref a, by rw [List.getElem?_set]; simp [r.len, l], a, rfl, .inr rfl, fresh, h⟩
      · simp [l] at e
    · rw [List.getElem?_set_ne ej] at e ⊢
      obtain ⟨v, ev, q⟩ := r.sl j w e
      refine ⟨v, ev, ?_⟩
      cases w with
      | d x => exact up _ _ q
      | own x =>
        obtain ⟨c, e1, e2, e3, e4⟩ := q
        exact ⟨c, e1, .inl e2, e3, OwnC.mono (g := gO f O) (fun x u no e => ⟨n.c.app x u (fun z => no (z ▸ r.ctx.ob)) e, fun z => Or.elim (show O x ∨ x = a from z) no fun z => by rw [z, na] at e; cases e⟩) (fun o e => n.c.app _ _ (r.nb e3) e) e4⟩
      | ro x =>
        obtain ⟨c, e1, e2, e3, e4⟩ := q
        exact ⟨c, e1, e2, e3, OwnC.mono (g := gO f O) (fun x u no e => ⟨n.c.app x u (fun z => no (z ▸ r.ctx.ob)) e, fun z => Or.elim (show O x ∨ x = a from z) no fun z => by rw [z, na] at e; cases e⟩) (fun o e => n.c.app _ _ e2 e) e4⟩
      | bag => exact q
  · have inn : ∀ (j : Nat) (x : Dt), j ≠ i → (ρ.set i (some (.own d)))[j]? = some (some (W.own x)) → (σ.set i (some (.ref a)))[j]? = some (some (.ref c)) → ρ[j]? = some (some (W.own x)) ∧ σ[j]? = some (some (.ref c)) ∧ c ≠ a := fun j x z e e' => by
      rw [List.getElem?_set_ne z.symm] at e e'
      refine ⟨e, e', fun ca => ?_⟩
      obtain ⟨v, ev, c', q1, q2, _⟩ := r.sl j _ e
      rw [ev] at e'
      cases e'; cases q1
      exact nO (ca ▸ q2)
    have at_i : ∀ v, (σ.set i (some (.ref a)))[i]? = some (some (.ref v)) → v = a := fun v e => by
      rw [List.getElem?_set] at e
      by_cases l : i < σ.length
      · simp [l] at e; exact e.symm
      · simp [l] at e
    by_cases z1 : j = i
    · by_cases z2 : k = i
      · rw [z1, z2]
      · have := (inn k y z2 e2 e4).2.2
        rw [z1] at e3
        exact absurd (at_i _ e3) this
    · by_cases z2 : k = i
      · have := (inn j x z1 e1 e3).2.2
        rw [z2] at e4
        exact absurd (at_i _ e4) this
      · exact r.apart j k x y c (inn j x z1 e1 e3).1 (inn k y z2 e2 e4).1 (inn j x z1 e1 e3).2.1 (inn k y z2 e2 e4).2.1
/-- a slot's own thing is changed -/
theorem Rel.chg (r : Rel f O H σ ρ) {i : Nat} {a : Addr} {x d : Dt} {o : HO} (e : ρ[i]? = some (some (.own x))) (ev : σ[i]? = some (some (.ref a))) (h : OwnC (gO f O) (upd H a o) a d) : Rel f O (upd H a o) σ (ρ.set i (some (.own d))) := by
  obtain ⟨v, ev', a', e1, oa, fa, oc⟩ := r.sl i _ e
  rw [ev] at ev'
  cases ev'; cases e1
  have nb := r.nb fa
  have nl := r.nl fa
  obtain ⟨l, cs, ow, hl, lb⟩ := r.ctx.bag.own
  have al : a ≠ l := fun z => nl (z ▸ ow)
  obtain ⟨bg, ow'⟩ := Bag.set (o := o) r.ctx.bag ow nb al
  have keep : ∀ x u, x ≠ a → H x = some u → upd H a o x = some u := fun x u z e => by rw [upd_ne z]; exact e
  refine ⟨by rw [List.length_set]; exact r.len, ⟨r.ctx.ob, bg, fun x hx => ?_, fun l' hl' => ?_⟩, r.ctx0, ⟨fun x u n e => keep x u (fun z => by rw [z, fa] at e; cases e) (r.frm.app x u n e), fun p q s m e => ?_⟩, r.sub, fun j w e2 => ?_, fun j k x y c e1 e2 e3 e4 => ?_⟩
  · by_cases z : x = a
    · exact ⟨o, by rw [z]; exact upd_same⟩
    · obtain ⟨u, hu⟩ := r.ctx.al x hx
      exact ⟨u, keep _ _ z hu⟩
  · rw [Own.fn hl' ow']
    exact r.ctx.ol _ ow
  · obtain ⟨p', q', s', e'⟩ := r.frm.fo p q s m e
    exact ⟨p', q', s', keep _ _ nb.symm e'⟩
  · by_cases ej : i = j
    · subst ej
      rw [List.getElem?_set] at e2
      by_cases l : i < ρ.length
      · simp [l] at e2; subst e2
        exact ⟨_, ev, a, rfl, oa, fa, h⟩
      · simp [l] at e2
    · rw [List.getElem?_set_ne ej] at e2
      obtain ⟨v, ev2, q⟩ := r.sl j w e2
      refine ⟨v, ev2, ?_⟩
      cases w with
      | d x => exact Rp.chg (g := gO f O) oa q
      | own x =>
        obtain ⟨c, q1, q2, q3, q4⟩ := q
        subst q1
        have ca : c ≠ a := fun z => ej (r.apart i j _ _ a e e2 ev (by rw [ev2, z]))
        exact ⟨c, rfl, q2, q3, OwnC.mono (g := gO f O) (fun x u no e => ⟨keep x u (fun z => no (z ▸ oa)) e, no⟩) (fun u e => keep _ _ ca e) q4⟩
      | ro x =>
        obtain ⟨c, q1, q2, q3, q4⟩ := q
        exact ⟨c, q1, q2, q3, OwnC.mono (g := gO f O) (fun x u no e => ⟨keep x u (fun z => no (z ▸ oa)) e, no⟩) (fun u e => keep _ _ (r.rne q3 fa) e) q4⟩
      | bag => exact q
  · have tr : ∀ (j : Nat) (x : Dt), (ρ.set i (some (.own d)))[j]? = some (some (W.own x)) → ∃ y, ρ[j]? = some (some (W.own y)) := fun j x q => by
      by_cases ej : i = j
      · subst ej; exact ⟨_, e⟩
      · rw [List.getElem?_set_ne ej] at q; exact ⟨_, q⟩
    obtain ⟨x', h1⟩ := tr j x e1
    obtain ⟨y', h2⟩ := tr k y e2
    exact r.apart j k x' y' c h1 h2 e3 e4
/-- a slot's own thing is handed over: it is not changed any more -/
theorem Rel.frz (r : Rel f O H σ ρ) {i : Nat} {a : Addr} {x : Dt} (e : ρ[i]? = some (some (.own x))) (ev : σ[i]? = some (some (.ref a))) : Rel f ((gO f O).but a).O H σ (ρ.set i (some (.d x))) ∧ Rp ((gO f O).but a) H (.ref a) x := by
  obtain ⟨v, ev', a', e1, oa, fa, oc⟩ := r.sl i _ e
  rw [ev] at ev'
  cases ev'; cases e1
  have nb := r.nb fa
  have nl := r.nl fa
  have less : ∀ v d, Rp (gO f O) H v d → Rp ((gO f O).but a) H v d := fun v d h => h.less (g := gO f O) fun x (z : O x ∧ x ≠ a) => z.1
  have rp : Rp ((gO f O).but a) H (.ref a) x := by
    have na : ¬ ((gO f O).but a).O a := fun z => z.2 rfl
    cases x with
    | lst ds => obtain ⟨xs, e5, k⟩ := oc; exact .lst na e5 (k.less (g := gO f O) fun x (z : O x ∧ x ≠ a) => z.1)
    | dic ks ds => obtain ⟨kv, e5, nd, ek, k⟩ := oc; subst ek; exact .dic na (.inl e5) nd (k.less (g := gO f O) fun x (z : O x ∧ x ≠ a) => z.1)
    | _ => exact oc.elim
  refine ⟨⟨by rw [List.length_set]; exact r.len, r.ctx.but nb nl, r.ctx0, r.frm, fun x hx => ⟨r.sub x hx, fun z => ?_⟩, fun j w e2 => ?_, fun j k x1 y1 c e1 e2 e3 e4 => ?_⟩, rp⟩
  · obtain ⟨u, hu⟩ := r.ctx0.al x hx
    rw [z, fa] at hu; cases hu
  · by_cases ej : i = j
    · subst ej
      rw [List.getElem?_set] at e2
      by_cases l : i < ρ.length
      · simp [l] at e2; subst e2
        exact ⟨_, ev, rp⟩
      · simp [l] at e2
    · rw [List.getElem?_set_ne ej] at e2
      obtain ⟨v, ev2, q⟩ := r.sl j w e2
      refine ⟨v, ev2, ?_⟩
      cases w with
      | d x => exact less _ _ q
      | own x =>
        obtain ⟨c, q1, q2, q3, q4⟩ := q
        subst q1
        have ca : c ≠ a := fun z => ej (r.apart i j _ _ a e e2 ev (by rw [ev2, z]))
        exact ⟨c, rfl, ⟨q2, ca⟩, q3, OwnC.mono (g := gO f O) (fun x u no e => ⟨e, fun z => no z.1⟩) (fun u e => e) q4⟩
      | ro x =>
        obtain ⟨c, q1, q2, q3, q4⟩ := q
        exact ⟨c, q1, q2, q3, OwnC.mono (g := gO f O) (fun x u no e => ⟨e, fun z => no z.1⟩) (fun u e => e) q4⟩
      | bag => exact q
  · have tr : ∀ (j : Nat) (z : Dt), (ρ.set i (some (.d x)))[j]? = some (some (W.own z)) → ρ[j]? = some (some (W.own z)) := fun j z q => by
      by_cases ej : i = j
      · subst ej
        rw [List.getElem?_set] at q
        by_cases l : i < ρ.length <;> simp [l] at q
      · rw [List.getElem?_set_ne ej] at q; exact q
    exact r.apart j k x1 y1 c (tr j x1 e1) (tr k y1 e2) e3 e4
end
end VL
/-! Readings over data; statements, loops, defs. -/
namespace VL
open PySem PySem.Spec PyProof.Rows L2 RX
abbrev DE := Ev → (Dt → Prop) → Prop
abbrev DT := Ev → (Bool → Prop) → Prop
abbrev DL := Ev → (List Dt → Prop) → Prop
/-- an argument: data, or the bag -/
inductive Ar where
  | d (x : Dt) | ro (x : Dt) | bag
abbrev DA := Ev → (List Ar → Prop) → Prop
def RAr (g : Geo) (H : Hp) (v : V) : Ar → Prop
  | .d x => Rp g H v x
  | .ro x => ∃ a, v = .ref a ∧ a ≠ g.b ∧ g.O a ∧ OwnC g H a x
  | .bag => v = .ref g.b
theorem RAr.nxt {g : Geo} {H H' : Hp} {v : V} {a : Ar} (c : Ctx g H) (n : Nxt g H H') (h : RAr g H v a) : RAr g H' v a := by
  cases a with
  | d x => exact Rp.nxt c n h
  | ro x => obtain ⟨a, e1, e2, e3, e4⟩ := h; exact ⟨a, e1, e2, e3, e4.nxt c n e2⟩
  | bag => exact h
/-- what is represented stays -/
def Kep (O : Addr → Prop) (H : Hp) (O' : Addr → Prop) (H' : Hp) : Prop := ∀ a o, ¬ O a → H a = some o → H' a = some o ∧ ¬ O' a
theorem Kep.refl {O : Addr → Prop} {H : Hp} : Kep O H O H := fun _ _ n e => ⟨e, n⟩
theorem Kep.trans {O O1 O2 : Addr → Prop} {H H1 H2 : Hp} (x : Kep O H O1 H1) (y : Kep O1 H1 O2 H2) : Kep O H O2 H2 := fun a o n e => y a o (x a o n e).2 (x a o n e).1
theorem Nxt.kep {g : Geo} {H H' : Hp} (c : Ctx g H) (n : Nxt g H H') : Kep g.O H g.O H' := fun a o no e => ⟨n.c.app a o (fun z => no (z ▸ c.ob)) e, no⟩
def lE (t : DE) : TE := fun σ H Q => ∃ f O ρ M, Rel f O H σ ρ ∧ t ρ M ∧ ∀ d v H', M d → Nxt (gO f O) H H' → Rp (gO f O) H' v d → Q v H'
def lC (t : DE) : TE := fun σ H Q => ∃ f O ρ M, Rel f O H σ ρ ∧ t ρ M ∧ ∀ d v H', M d → Nxt (gO f O) H H' → Rpc (gO f O) H' v d → Q v H'
def lF (t : DE) : TE := fun σ H Q => ∃ f O ρ M, Rel f O H σ ρ ∧ t ρ M ∧ ∀ d a H', M d → Nxt (gO f O) H H' → H a = none → OwnC ((gO f O).and a) H' a d → Q (.ref a) H'
def lT (t : DT) : TT := fun σ H Q => ∃ f O ρ M, Rel f O H σ ρ ∧ t ρ M ∧ ∀ d H', M d → Nxt (gO f O) H H' → Q d H'
def lA (t : DA) : TA := fun σ H Q => ∃ f O ρ M, Rel f O H σ ρ ∧ t ρ M ∧ ∀ as vs H', M as → Nxt (gO f O) H H' → Paired (RAr (gO f O) H') vs as → Q vs H'
def lL (t : DL) : TA := fun σ H Q => ∃ f O ρ M, Rel f O H σ ρ ∧ t ρ M ∧ ∀ ds vs H', M ds → Nxt (gO f O) H H' → RpAll (gO f O) H' vs ds → Q vs H'
/-- arguments of built-ins: looked into, not kept -/
def lK (t : DL) : TA := fun σ H Q => ∃ f O ρ M, Rel f O H σ ρ ∧ t ρ M ∧ ∀ ds vs H', M ds → Nxt (gO f O) H H' → Paired (Rpc (gO f O) H') vs ds → Q vs H'
abbrev VE (X : Cx) (e : Expr) (t : DE) : Prop := PE X e (lE t)
abbrev VC (X : Cx) (e : Expr) (t : DE) : Prop := PE X e (lC t)
abbrev VF (X : Cx) (e : Expr) (t : DE) : Prop := PE X e (lF t)
abbrev VT (X : Cx) (e : Expr) (t : DT) : Prop := PT X e (lT t)
abbrev VW (X : Cx) (e : Expr) (t : DT) : Prop := PW X e (lT t)
abbrev VA (X : Cx) (es : List Expr) (t : DA) : Prop := PA X es (lA t)
abbrev VLs (X : Cx) (es : List Expr) (t : DL) : Prop := PA X es (lL t)
abbrev VK (X : Cx) (es : List Expr) (t : DL) : Prop := PA X es (lK t)
section
variable {X : Cx} {e : Expr} {es : List Expr} {st : Stmt} {sts : List Stmt}
theorem pe_imp {t t' : TE} (h : PE X e t) (k : ∀ σ H Q, t' σ H Q → t σ H Q) : PE X e t' := ⟨fun pins s σ H Q I q => h.run pins s σ H Q I (k _ _ _ q)⟩
theorem pt_imp {t t' : TT} (h : PT X e t) (k : ∀ σ H Q, t' σ H Q → t σ H Q) : PT X e t' := ⟨fun pins s σ H Q I q => h.run pins s σ H Q I (k _ _ _ q)⟩
theorem pw_imp {t t' : TT} (h : PW X e t) (k : ∀ σ H Q, t' σ H Q → t σ H Q) : PW X e t' := ⟨fun wh pins s σ H Q I q => h.run wh pins s σ H Q I (k _ _ _ q)⟩
theorem pa_imp {t t' : TA} (h : PA X es t) (k : ∀ σ H Q, t' σ H Q → t σ H Q) : PA X es t' := ⟨fun pos pins s σ H Q I q => h.run pos pins s σ H Q I (k _ _ _ q)⟩
theorem ps_imp {t t' : TS} (h : PS X st t) (k : ∀ D σ H, t' D σ H → t D σ H) : PS X st t' := ⟨fun pins s σ H Q I q => h.run pins s σ H Q I (k _ _ _ q)⟩
theorem pss_imp {t t' : TS} (h : PSs X sts t) (k : ∀ D σ H, t' D σ H → t D σ H) : PSs X sts t' := ⟨fun pins s σ H Q I q => h.run pins s σ H Q I (k _ _ _ q)⟩
theorem pi_imp {tg iter : Expr} {t t' : TI} (h : PI X tg iter t) (k : ∀ σ H Q, t' σ H Q → t σ H Q) : PI X tg iter t' := ⟨fun pins s σ H R I q => h.run pins s σ H R I (k _ _ _ q)⟩
theorem pg_imp {t t' : TG} (h : PG X e t) (k : ∀ v σ H Q, t' v σ H Q → t v σ H Q) : PG X e t' := ⟨fun pins s σ H v u Q I r q => h.run pins s σ H v u Q I r (k _ _ _ _ q)⟩
theorem vec {t : DE} (h : VE X e t) : VC X e t := pe_imp h fun σ H Q ⟨f, O, ρ, M, r, q, k⟩ => ⟨f, O, ρ, M, r, q, fun d v H' m n p => k d v H' m n (.inl p)⟩
theorem vfe {t : DE} (h : VF X e t) : VE X e t := pe_imp h fun σ H Q ⟨f, O, ρ, M, r, q, k⟩ => ⟨f, O, ρ, M, r, q, fun d a H' m n na p => k d _ H' m n (p.rp fun z => by
  obtain ⟨o, ho⟩ := r.ctx.al a z
  rw [na] at ho; cases ho)⟩
theorem vfc {t : DE} (h : VF X e t) : VC X e t := vec (vfe h)
theorem none_before {g : Geo} {H H1 : Hp} {a : Addr} (n : Nxt g H H1) (na : H1 a = none) : H a = none := by
  cases e : H a with
  | none => rfl
  | some o =>
    by_cases z : a = g.b
    · obtain ⟨o', ho⟩ := n.bag.lst
      rw [z] at na
      rw [na] at ho
      cases ho
    · have := n.c.app a o z e
      rw [na] at this; cases this
/-! ### names and constants -/
def vVar (i : Nat) : DE := fun ρ M => match ρ[i]? with
  | some (some (.d x)) => M x
  | _ => False
def vVarC (i : Nat) : DE := fun ρ M => match ρ[i]? with
  | some (some (.d x)) => M x
  | some (some (.own x)) => M x
  | some (some (.ro x)) => M x
  | _ => False
def vConst (d : Dt) : DE := fun _ M => M d
theorem ve_var {i : Nat} {x : PySem.Str} {pos : Pos} (hN : X.N[i]? = some x) (hv : Vis X.env.scope x) (hd : (x == ("__debug__" : PySem.Str)) = false := by decide) (hcd : (x == ("__classdict__" : PySem.Str)) = false := by decide) : VE X (.Name x pos) (vVar i) := by
  refine pe_imp (pe_var hN hv hd hcd) fun σ H Q ⟨f, O, ρ, M, r, q, k⟩ => ?_
  unfold vVar at q
  split at q
  · next x' e => obtain ⟨v, ev, h⟩ := r.sl _ _ e; exact ⟨v, ev, k _ _ _ q (.refl r.ctx) h⟩
  · exact q.elim
theorem vc_var {i : Nat} {x : PySem.Str} {pos : Pos} (hN : X.N[i]? = some x) (hv : Vis X.env.scope x) (hd : (x == ("__debug__" : PySem.Str)) = false := by decide) (hcd : (x == ("__classdict__" : PySem.Str)) = false := by decide) : VC X (.Name x pos) (vVarC i) := by
  refine pe_imp (pe_var hN hv hd hcd) fun σ H Q ⟨f, O, ρ, M, r, q, k⟩ => ?_
  unfold vVarC at q
  split at q
  · next x' e => obtain ⟨v, ev, h⟩ := r.sl _ _ e; exact ⟨v, ev, k _ _ _ q (.refl r.ctx) (.inl h)⟩
  · next x' e => obtain ⟨v, ev, a, e1, e2, e3, e4⟩ := r.sl _ _ e; exact ⟨v, ev, k _ _ _ q (.refl r.ctx) (.inr ⟨a, e1, r.nb e3, e4⟩)⟩
  · next x' e => obtain ⟨v, ev, a, e1, e2, e3, e4⟩ := r.sl _ _ e; exact ⟨v, ev, k _ _ _ q (.refl r.ctx) (.inr ⟨a, e1, e2, e4⟩)⟩
  · exact q.elim
theorem ve_int {i : Nat} {j pos} : VE X (.Constant (.int i) j pos) (vConst (.int i)) := pe_imp pe_int fun σ H Q ⟨f, O, ρ, M, r, q, k⟩ => k _ _ _ q (.refl r.ctx) (.int _)
theorem ve_bl {b : Bool} {j pos} : VE X (.Constant (.bool b) j pos) (vConst (.bl b)) := pe_imp pe_bl fun σ H Q ⟨f, O, ρ, M, r, q, k⟩ => k _ _ _ q (.refl r.ctx) (.bl _)
theorem ve_non {j pos} : VE X (.Constant .none j pos) (vConst .non) := pe_imp pe_non fun σ H Q ⟨f, O, ρ, M, r, q, k⟩ => k _ _ _ q (.refl r.ctx) .non
theorem ve_str {x : PySem.Str} {j pos} : VE X (.Constant (.str x) j pos) (vConst (.str x)) := pe_imp pe_str fun σ H Q ⟨f, O, ρ, M, r, q, k⟩ => k _ _ _ q (.refl r.ctx) (.str _)
theorem ve_globS {x : PySem.Str} {z : PySem.Str} {t : Tok} {pos : Pos} (hg : Gl X x) (hm : X.mg x = some (.str z t)) (hd : (x == ("__debug__" : PySem.Str)) = false := by decide) : VE X (.Name x pos) (vConst (.str z)) :=
  pe_imp (pe_glob (v := .str z) hg hm ⟨_, rfl⟩ hd) fun σ H Q ⟨f, O, ρ, M, r, q, k⟩ => k _ _ _ q (.refl r.ctx) (.str _)
theorem ve_globI {x : PySem.Str} {z : Int} {t : Tok} {pos : Pos} (hg : Gl X x) (hm : X.mg x = some (.int z t)) (hd : (x == ("__debug__" : PySem.Str)) = false := by decide) : VE X (.Name x pos) (vConst (.int z)) :=
  pe_imp (pe_glob (v := .int z) hg hm ⟨_, rfl⟩ hd) fun σ H Q ⟨f, O, ρ, M, r, q, k⟩ => k _ _ _ q (.refl r.ctx) (.int _)
/-! ### argument lists -/
def vaNil : DA := fun _ M => M []
def vaD (t : DE) (u : DA) : DA := fun ρ M => t ρ fun d => u ρ fun as => M (.d d :: as)
def vaB (i : Nat) (u : DA) : DA := fun ρ M => ρ[i]? = some (some .bag) ∧ u ρ fun as => M (.bag :: as)
/-- a slot's own thing, or a caller's, only to be looked into -/
def vaR (i : Nat) (u : DA) : DA := fun ρ M => match ρ[i]? with
  | some (some (.own x)) => u ρ fun as => M (.ro x :: as)
  | some (some (.ro x)) => u ρ fun as => M (.ro x :: as)
  | _ => False
def vlNil : DL := fun _ M => M []
def vlCons (t : DE) (u : DL) : DL := fun ρ M => t ρ fun d => u ρ fun as => M (d :: as)
theorem va_nil : VA X [] vaNil := pa_imp pa_nil fun σ H Q ⟨f, O, ρ, M, r, q, k⟩ => k [] [] H q (.refl r.ctx) .nil
theorem va_d {t : DE} {u : DA} (h : VE X e t) (hr : VA X es u) (hs : starEach (e :: es) X.env = (false, eval e X.env) :: starEach es X.env := by rfl) : VA X (e :: es) (vaD t u) :=
  pa_imp (pa_cons h hr hs) fun σ H Q ⟨f, O, ρ, M, r, q, k⟩ => ⟨f, O, ρ, _, r, q, fun d v H1 m n p => ⟨f, O, ρ, _, r.nxt n, m, fun as vs H2 m2 n2 p2 => k _ _ _ m2 (n.trans n2) (.cons (Rp.nxt (g := gO f O) (r.nxt n).ctx n2 p) p2)⟩⟩
theorem va_b {i : Nat} {x : PySem.Str} {u : DA} {pos : Pos} (hN : X.N[i]? = some x) (hv : Vis X.env.scope x) (hr : VA X es u) (hd : (x == ("__debug__" : PySem.Str)) = false := by decide) (hcd : (x == ("__classdict__" : PySem.Str)) = false := by decide)
    (hs : starEach (.Name x pos :: es) X.env = (false, eval (.Name x pos) X.env) :: starEach es X.env := by rfl) : VA X (.Name x pos :: es) (vaB i u) :=
  pa_imp (pa_cons (pe_var hN hv hd hcd) hr hs) fun σ H Q ⟨f, O, ρ, M, r, ⟨eb, q⟩, k⟩ => by
    obtain ⟨v, ev, h⟩ := r.sl _ _ eb
    exact ⟨v, ev, f, O, ρ, _, r, q, fun as vs H2 m2 n2 p2 => k _ _ _ m2 n2 (.cons (show RAr _ _ _ Ar.bag from h) p2)⟩
theorem va_r {i : Nat} {x : PySem.Str} {u : DA} {pos : Pos} (hN : X.N[i]? = some x) (hv : Vis X.env.scope x) (hr : VA X es u) (hd : (x == ("__debug__" : PySem.Str)) = false := by decide) (hcd : (x == ("__classdict__" : PySem.Str)) = false := by decide)
    (hs : starEach (.Name x pos :: es) X.env = (false, eval (.Name x pos) X.env) :: starEach es X.env := by rfl) : VA X (.Name x pos :: es) (vaR i u) :=
  pa_imp (pa_cons (pe_var hN hv hd hcd) hr hs) fun σ H Q ⟨f, O, ρ, M, r, q, k⟩ => by
    unfold vaR at q
    split at q
    · next x' e =>
      obtain ⟨v, ev, a, e1, e2, e3, e4⟩ := r.sl _ _ e
      exact ⟨v, ev, f, O, ρ, _, r, q, fun as vs H2 m2 n2 p2 => k _ _ _ m2 n2 (.cons ⟨a, e1, r.nb e3, e2, e4.nxt r.ctx n2 (r.nb e3)⟩ p2)⟩
    · next x' e =>
      obtain ⟨v, ev, a, e1, e2, e3, e4⟩ := r.sl _ _ e
      exact ⟨v, ev, f, O, ρ, _, r, q, fun as vs H2 m2 n2 p2 => k _ _ _ m2 n2 (.cons ⟨a, e1, e2, r.sub _ e3, e4.nxt r.ctx n2 e2⟩ p2)⟩
    · exact q.elim
theorem vl_nil : VLs X [] vlNil := pa_imp pa_nil fun σ H Q ⟨f, O, ρ, M, r, q, k⟩ => k [] [] H q (.refl r.ctx) .nil
theorem vl_cons {t : DE} {u : DL} (h : VE X e t) (hr : VLs X es u) (hs : starEach (e :: es) X.env = (false, eval e X.env) :: starEach es X.env := by rfl) : VLs X (e :: es) (vlCons t u) :=
  pa_imp (pa_cons h hr hs) fun σ H Q ⟨f, O, ρ, M, r, q, k⟩ => ⟨f, O, ρ, _, r, q, fun d v H1 m n p => ⟨f, O, ρ, _, r.nxt n, m, fun as vs H2 m2 n2 p2 => k _ _ _ m2 (n.trans n2) (.cons (Rp.nxt (g := gO f O) (r.nxt n).ctx n2 p) p2)⟩⟩
theorem vk_nil : VK X [] vlNil := pa_imp pa_nil fun σ H Q ⟨f, O, ρ, M, r, q, k⟩ => k [] [] H q (.refl r.ctx) .nil
theorem vk_cons {t : DE} {u : DL} (h : VC X e t) (hr : VK X es u) (hs : starEach (e :: es) X.env = (false, eval e X.env) :: starEach es X.env := by rfl) : VK X (e :: es) (vlCons t u) :=
  pa_imp (pa_cons h hr hs) fun σ H Q ⟨f, O, ρ, M, r, q, k⟩ => ⟨f, O, ρ, _, r, q, fun d v H1 m n p => ⟨f, O, ρ, _, r.nxt n, m, fun as vs H2 m2 n2 p2 => k _ _ _ m2 (n.trans n2) (.cons (Rpc.nxt (g := gO f O) (r.nxt n).ctx n2 p) p2)⟩⟩
/-! ### displays -/
def vTup (t : DL) : DE := fun ρ M => t ρ fun ds => ds.length ≤ sizeLine ∧ M (.tup ds)
def vLst (t : DL) : DE := fun ρ M => t ρ fun ds => ds.length ≤ sizeLine ∧ M (.lst ds)
theorem not_new {f : Fr} {O : Addr → Prop} {H : Hp} {σ : L2.St} {ρ : Ev} (r : Rel f O H σ ρ) {p : Addr} (np : H p = none) : ¬ O p := fun z => by
  obtain ⟨o, ho⟩ := r.ctx.al p z
  rw [np] at ho; cases ho
theorem ve_tup {t : DL} {x1 pos} (h : VLs X es t) : VE X (.Tuple es x1 pos) (vTup t) :=
  pe_imp (pe_tup h) fun σ H Q ⟨f, O, ρ, M, r, q, k⟩ => ⟨f, O, ρ, _, r, q, fun ds vs H1 ⟨m, m2⟩ n p => ⟨by rw [p.len]; exact m, fun a na =>
    k _ _ _ m2 (n.trans (.new (r.nxt n).ctx na)) (.tup (not_new (r.nxt n) na) upd_same (RpAll.nxt (g := gO f O) (r.nxt n).ctx (.new (r.nxt n).ctx na) p))⟩⟩
theorem vf_lst {t : DL} {pos} (h : VLs X es t) : VF X (.List es pos) (vLst t) :=
  pe_imp (pe_lst h) fun σ H Q ⟨f, O, ρ, M, r, q, k⟩ => ⟨f, O, ρ, _, r, q, fun ds vs H1 ⟨m, m2⟩ n p => ⟨by rw [p.len]; exact m, fun a na =>
    k _ _ _ m2 (n.trans (.new (r.nxt n).ctx na)) (none_before n na) ⟨vs, upd_same, RpAll.and (g := gO f O) (r.nxt n).ctx na p⟩⟩⟩
end
/-! ### tests, conditions -/
section
variable {X : Cx} {e a b c : Expr} {rest : List Expr} {pos : Pos}
def vBl (t : DE) : DT := fun ρ M => t ρ fun d => match d with
  | .bl c => M c
  | _ => False
theorem vt_val {t : DE} (h : VE X e t) (he : ∀ whole, isTrue e X.env whole = (do let v ← whole; standAt e.pos; holding [v] (truthy v)) := by intro _; rfl) : VT X e (vBl t) :=
  pt_imp (pt_val h he) fun σ H Q ⟨f, O, ρ, M, r, q, k⟩ => ⟨f, O, ρ, _, r, q, fun d v H' m n p => by
    cases d with
    | bl c => exact ⟨c, p.bl_inv, k _ _ m n⟩
    | _ => exact m.elim⟩
def vAnd (t u : DT) : DT := fun ρ M => t ρ fun c => if c = true then u ρ M else M false
def vOr (t u : DT) : DT := fun ρ M => t ρ fun c => if c = true then M true else u ρ M
def vNot (t : DT) : DT := fun ρ M => t ρ fun c => M (!c)
theorem vw_and1 {t : DT} (h : VT X a t) : VW X (.BoolOp .And [a] pos) t := pw_and1 h
theorem vw_or1 {t : DT} (h : VT X a t) : VW X (.BoolOp .Or [a] pos) t := pw_or1 h
theorem vw_and {t u : DT} (h : VT X a t) (k : VW X (.BoolOp .And (b :: rest) pos) u) : VW X (.BoolOp .And (a :: b :: rest) pos) (vAnd t u) :=
  pw_imp (pw_and h k) fun σ H Q ⟨f, O, ρ, M, r, q, k⟩ => ⟨f, O, ρ, _, r, q, fun c H' m n => by
    cases c with
    | true => exact ⟨f, O, ρ, _, r.nxt n, m, fun d H2 m2 n2 => k _ _ m2 (n.trans n2)⟩
    | false => exact k _ _ m n⟩
theorem vw_or {t u : DT} (h : VT X a t) (k : VW X (.BoolOp .Or (b :: rest) pos) u) : VW X (.BoolOp .Or (a :: b :: rest) pos) (vOr t u) :=
  pw_imp (pw_or h k) fun σ H Q ⟨f, O, ρ, M, r, q, k⟩ => ⟨f, O, ρ, _, r, q, fun c H' m n => by
    cases c with
    | false => exact ⟨f, O, ρ, _, r.nxt n, m, fun d H2 m2 n2 => k _ _ m2 (n.trans n2)⟩
    | true => exact k _ _ m n⟩
theorem vwt {t : DT} (h : VW X e t) : VT X e t := PW.pt h
theorem vt_not {t : DT} (h : VT X a t) : VT X (.UnaryOp .Not a pos) (vNot t) :=
  pt_imp (pt_not h) fun σ H Q ⟨f, O, ρ, M, r, q, k⟩ => ⟨f, O, ρ, _, r, q, fun c H' m n => k _ _ m n⟩
def vIfE (t : DT) (u w : DE) : DE := fun ρ M => t ρ fun c => if c = true then u ρ M else w ρ M
theorem ve_ifE {t : DT} {u w : DE} (hc : VT X c t) (ha : VE X a u) (hb : VE X b w) : VE X (.IfExp c a b pos) (vIfE t u w) :=
  pe_imp (pe_ifExp hc ha hb) fun σ H Q ⟨f, O, ρ, M, r, q, k⟩ => ⟨f, O, ρ, _, r, q, fun c H' m n => by
    cases c with
    | true => exact ⟨f, O, ρ, _, r.nxt n, m, fun d v H2 m2 n2 p => k _ _ _ m2 (n.trans n2) p⟩
    | false => exact ⟨f, O, ρ, _, r.nxt n, m, fun d v H2 m2 n2 p => k _ _ _ m2 (n.trans n2) p⟩⟩
theorem vf_ifE {t : DT} {u w : DE} (hc : VT X c t) (ha : VF X a u) (hb : VF X b w) : VF X (.IfExp c a b pos) (vIfE t u w) :=
  pe_imp (pe_ifExp hc ha hb) fun σ H Q ⟨f, O, ρ, M, r, q, k⟩ => ⟨f, O, ρ, _, r, q, fun c H' m n => by
    cases c with
    | true => exact ⟨f, O, ρ, _, r.nxt n, m, fun d v H2 m2 n2 na p => k _ _ _ m2 (n.trans n2) (none_before n na) p⟩
    | false => exact ⟨f, O, ρ, _, r.nxt n, m, fun d v H2 m2 n2 na p => k _ _ _ m2 (n.trans n2) (none_before n na) p⟩⟩
/-! ### operators, by data -/
abbrev D2 := Dt → Dt → (Dt → Prop) → Prop
abbrev D1 := Dt → (Dt → Prop) → Prop
/-- an operator by data: operands looked into -/
def VOp (X : Cx) (F : Value → Value → Sem Value) (d : D2) : Prop := OpR X F fun x y H Q => ∃ g d1 d2 M, Ctx g H ∧ Rpc g H x d1 ∧ Rpc g H y d2 ∧ d d1 d2 M ∧ ∀ d v H', M d → Nxt g H H' → Rp g H' v d → Q v H'
/-- the same, telling a new thing -/
def VOpF (X : Cx) (F : Value → Value → Sem Value) (d : D2) : Prop := OpR X F fun x y H Q => ∃ g d1 d2 M, Ctx g H ∧ Rpc g H x d1 ∧ Rpc g H y d2 ∧ d d1 d2 M ∧ ∀ d a H', M d → Nxt g H H' → H a = none → OwnC (g.and a) H' a d → Q (.ref a) H'
def vOp (d : D2) (t u : DE) : DE := fun ρ M => t ρ fun x => u ρ fun y => d x y M
theorem vop_lift {d : D2} {t u : DE} {σ : L2.St} {H : Hp} {Q : L2.VK} (h : lE (vOp d t u) σ H Q) :
    lC t σ H fun x H1 => lC u σ H1 fun y H2 => ∃ g d1 d2 M, Ctx g H2 ∧ Rpc g H2 x d1 ∧ Rpc g H2 y d2 ∧ d d1 d2 M ∧ ∀ d v H', M d → Nxt g H2 H' → Rp g H' v d → Q v H' := by
  obtain ⟨f, O, ρ, M, r, q, k⟩ := h
  exact ⟨f, O, ρ, _, r, q, fun d1 v1 H1 m1 n1 p1 => ⟨f, O, ρ, _, r.nxt n1, m1, fun d2 v2 H2 m2 n2 p2 =>
    ⟨gO f O, d1, d2, M, ((r.nxt n1).nxt n2).ctx, p1.nxt (r.nxt n1).ctx n2, p2, m2, fun d v H' m n p => k _ _ _ m ((n1.trans n2).trans n) p⟩⟩⟩
theorem vopF_lift {d : D2} {t u : DE} {σ : L2.St} {H : Hp} {Q : L2.VK} (h : lF (vOp d t u) σ H Q) :
    lC t σ H fun x H1 => lC u σ H1 fun y H2 => ∃ g d1 d2 M, Ctx g H2 ∧ Rpc g H2 x d1 ∧ Rpc g H2 y d2 ∧ d d1 d2 M ∧ ∀ d a H', M d → Nxt g H2 H' → H2 a = none → OwnC (g.and a) H' a d → Q (.ref a) H' := by
  obtain ⟨f, O, ρ, M, r, q, k⟩ := h
  exact ⟨f, O, ρ, _, r, q, fun d1 v1 H1 m1 n1 p1 => ⟨f, O, ρ, _, r.nxt n1, m1, fun d2 v2 H2 m2 n2 p2 =>
    ⟨gO f O, d1, d2, M, ((r.nxt n1).nxt n2).ctx, p1.nxt (r.nxt n1).ctx n2, p2, m2, fun d v H' m n na p => k _ _ _ m ((n1.trans n2).trans n) (none_before (n1.trans n2) na) p⟩⟩⟩
theorem ve_op {op : Operator} {d : D2} {t u : DE} (ho : VOp X (binaryOp op) d) (ha : VC X a t) (hb : VC X b u) : VE X (.BinOp a op b pos) (vOp d t u) :=
  pe_imp (pe_op ho ha hb) fun _ _ _ h => vop_lift h
theorem vf_op {op : Operator} {d : D2} {t u : DE} (ho : VOpF X (binaryOp op) d) (ha : VC X a t) (hb : VC X b u) : VF X (.BinOp a op b pos) (vOp d t u) :=
  pe_imp (pe_op ho ha hb) fun _ _ _ h => vopF_lift h
theorem ve_cmp {op : CmpOp} {d : D2} {t u : DE} (ho : VOp X (compareOp op) d) (ha : VC X a t) (hb : VC X b u) (hm : behindInMarks op b = false) : VE X (.Compare a [op] [b] pos) (vOp d t u) :=
  pe_imp (pe_cmpR ho ha hb hm) fun _ _ _ h => vop_lift h
def vOpT (d : D2) (t u : DE) : DT := vBl (vOp d t u)
theorem vt_cmp {op : CmpOp} {d : D2} {t u : DE} (ho : VOp X (compareOp op) d) (ha : VC X a t) (hb : VC X b u) (hm : behindInMarks op b = false) : VT X (.Compare a [op] [b] pos) (vBl (vOp d t u)) :=
  pt_imp (pt_cmpR ho ha hb hm) fun σ H Q ⟨f, O, ρ, M, r, q, k⟩ => by
    refine vop_lift ⟨f, O, ρ, _, r, q, fun d v H' m n p => ?_⟩
    cases d with
    | bl c => exact ⟨c, p.bl_inv, k _ _ m n⟩
    | _ => exact m.elim
/-- a subscript -/
def VIx (X : Cx) (d : D2) : Prop := IxR X fun x y H Q => ∃ g d1 d2 M, Ctx g H ∧ Rpc g H x d1 ∧ Rpc g H y d2 ∧ d d1 d2 M ∧ ∀ d v H', M d → Nxt g H H' → Rp g H' v d → Q v H'
theorem ve_ix {d : D2} {t u : DE} (ho : VIx X d) (ha : VC X a t) (hb : VC X b u) (hs : PlainIx b) : VE X (.Subscript a b pos) (vOp d t u) :=
  pe_imp (pe_ix ho ha hb hs) fun _ _ _ h => vop_lift h
/-- one operand -/
def VUn (X : Cx) (F : Value → Sem Value) (d : D1) : Prop := UnR X F fun x H Q => ∃ g d1 M, Ctx g H ∧ Rpc g H x d1 ∧ d d1 M ∧ ∀ d v H', M d → Nxt g H H' → Rp g H' v d → Q v H'
def vUn (d : D1) (t : DE) : DE := fun ρ M => t ρ fun x => d x M
theorem ve_un {op : UnaryOp} {d : D1} {t : DE} (ho : VUn X (unaryOp op) d) (ha : VC X a t) : VE X (.UnaryOp op a pos) (vUn d t) :=
  pe_imp (pe_un ho ha) fun σ H Q ⟨f, O, ρ, M, r, q, k⟩ => ⟨f, O, ρ, _, r, q, fun d1 v1 H1 m1 n1 p1 => ⟨gO f O, d1, M, (r.nxt n1).ctx, p1, m1, fun d v H' m n p => k _ _ _ m (n1.trans n) p⟩⟩
/-- calls of built-ins, by data -/
abbrev DK := List Dt → (Dt → Prop) → Prop
def VCall (X : Cx) (F : Value) (d : DK) : Prop := CallR X F fun vs H Q => ∃ g ds M, Ctx g H ∧ Paired (Rpc g H) vs ds ∧ d ds M ∧ ∀ d v H', M d → Nxt g H H' → Rp g H' v d → Q v H'
def VCallF (X : Cx) (F : Value) (d : DK) : Prop := CallR X F fun vs H Q => ∃ g ds M, Ctx g H ∧ Paired (Rpc g H) vs ds ∧ d ds M ∧ ∀ d a H', M d → Nxt g H H' → H a = none → OwnC (g.and a) H' a d → Q (.ref a) H'
def vCall (d : DK) (t : DL) : DE := fun ρ M => t ρ fun ds => d ds M
theorem vcall_lift {d : DK} {t : DL} {σ : L2.St} {H : Hp} {Q : L2.VK} (h : lE (vCall d t) σ H Q) :
    lK t σ H fun vs H1 => ∃ g ds M, Ctx g H1 ∧ Paired (Rpc g H1) vs ds ∧ d ds M ∧ ∀ d v H', M d → Nxt g H1 H' → Rp g H' v d → Q v H' := by
  obtain ⟨f, O, ρ, M, r, q, k⟩ := h
  exact ⟨f, O, ρ, _, r, q, fun ds vs H1 m1 n1 p1 => ⟨gO f O, ds, M, (r.nxt n1).ctx, p1, m1, fun d v H' m n p => k _ _ _ m (n1.trans n) p⟩⟩
theorem vcallF_lift {d : DK} {t : DL} {σ : L2.St} {H : Hp} {Q : L2.VK} (h : lF (vCall d t) σ H Q) :
    lK t σ H fun vs H1 => ∃ g ds M, Ctx g H1 ∧ Paired (Rpc g H1) vs ds ∧ d ds M ∧ ∀ d a H', M d → Nxt g H1 H' → H1 a = none → OwnC (g.and a) H' a d → Q (.ref a) H' := by
  obtain ⟨f, O, ρ, M, r, q, k⟩ := h
  exact ⟨f, O, ρ, _, r, q, fun ds vs H1 m1 n1 p1 => ⟨gO f O, ds, M, (r.nxt n1).ctx, p1, m1, fun d v H' m n na p => k _ _ _ m (n1.trans n) (none_before n1 na) p⟩⟩
section
variable {es : List Expr} {id x : PySem.Str} {p : Pos}
end
end
end VL
/-! Statements, loops, defs, by data. -/
namespace VL
open PySem PySem.Spec PyProof.Rows L2 RX
structure DEnds where
  nx : Ev → Prop
  rt : Dt → Prop
  bk : Ev → Prop := fun _ => False
  ct : Ev → Prop := fun _ => False
abbrev DS := DEnds → Ev → Prop
/-- what a def tells: data; or (fr) a new thing -/
def Ret (fr : Bool) (f : Fr) (v : V) (H : Hp) (d : Dt) : Prop := Nxt f.g f.H H ∧ match fr with
  | true => ∃ a, v = .ref a ∧ f.H a = none ∧ OwnC (f.g.and a) H a d
  | false => Rp f.g H v d
def To (f : Fr) (O : Addr → Prop) (H : Hp) (m : Ev → Prop) (k : L2.St → Hp → Prop) : Prop := ∀ O' ρ' σ' H', m ρ' → Rel f O' H' σ' ρ' → Kep O H O' H' → k σ' H'
theorem To.step {f : Fr} {O O1 : Addr → Prop} {H H1 : Hp} {m : Ev → Prop} {k : L2.St → Hp → Prop} (h : To f O H m k) (p : Kep O H O1 H1) : To f O1 H1 m k := fun O' ρ' σ' H' a b c => h O' ρ' σ' H' a b (p.trans c)
structure Outs (fr : Bool) (f : Fr) (O : Addr → Prop) (H : Hp) (D : DEnds) (E : Ends) : Prop where
  nx : To f O H D.nx E.nx
  rt : ∀ d v O' H', D.rt d → Kep O H O' H' → Ret fr f v H' d → E.rt v H'
  bk : To f O H D.bk E.bk
  ct : To f O H D.ct E.ct
theorem Outs.step {fr : Bool} {f : Fr} {O O1 : Addr → Prop} {H H1 : Hp} {D : DEnds} {E : Ends} (h : Outs fr f O H D E) (p : Kep O H O1 H1) : Outs fr f O1 H1 D E := ⟨h.nx.step p, fun d v O' H' m q r => h.rt d v O' H' m (p.trans q) r, h.bk.step p, h.ct.step p⟩
def lS (fr : Bool) (t : DS) : TS := fun E σ H => ∃ f O ρ D, Rel f O H σ ρ ∧ t D ρ ∧ Outs fr f O H D E
abbrev VS (fr : Bool) (X : Cx) (st : Stmt) (t : DS) : Prop := PS X st (lS fr t)
abbrev VSs (fr : Bool) (X : Cx) (sts : List Stmt) (t : DS) : Prop := PSs X sts (lS fr t)
section
variable {X : Cx} {fr : Bool} {st : Stmt} {rest sts : List Stmt} {e c a b : Expr} {pos : Pos}
def dNext : DS := fun D ρ => D.nx ρ
def dSeq (t u : DS) : DS := fun D ρ => t { D with nx := u D } ρ
/-- what holds between two statements, said once -/
def dCut (t u : DS) : DS := fun D ρ => ∃ M : Ev → Prop, t { D with nx := M } ρ ∧ ∀ ρ', M ρ' → u D ρ'
theorem vss_nil : VSs fr X [] dNext := pss_imp pss_nil fun E σ H ⟨f, O, ρ, D, r, q, k⟩ => k.nx O ρ σ H q r .refl
theorem vss_one {t : DS} (h : VS fr X st t) : VSs fr X [st] t := pss_one h
theorem vss_cons {t u : DS} (h : VS fr X st t) (k : VSs fr X rest u) : VSs fr X (st :: rest) (dSeq t u) :=
  pss_imp (pss_cons h k) fun E σ H ⟨f, O, ρ, D, r, q, k⟩ => ⟨f, O, ρ, { D with nx := u D }, r, q, ⟨fun O' ρ' σ' H' m r' p => ⟨f, O', ρ', D, r', m, k.step p⟩, k.rt, k.bk, k.ct⟩⟩
theorem vss_cut {t u : DS} (h : VS fr X st t) (k : VSs fr X rest u) : VSs fr X (st :: rest) (dCut t u) :=
  pss_imp (pss_cons h k) fun E σ H ⟨f, O, ρ, D, r, ⟨M, q, z⟩, k⟩ => ⟨f, O, ρ, { D with nx := M }, r, q, ⟨fun O' ρ' σ' H' m r' p => ⟨f, O', ρ', D, r', z _ m, k.step p⟩, k.rt, k.bk, k.ct⟩⟩
/-- a slot's own thing is handed over -/
def dFrz (i : Nat) (t : DS) : DS := fun D ρ => match ρ[i]? with
  | some (some (.own x)) => t D (ρ.set i (some (.d x)))
  | some (some (.d _)) => t D ρ
  | _ => False
theorem vss_frz (i : Nat) {t : DS} (h : VSs fr X sts t) : VSs fr X sts (dFrz i t) := pss_imp h fun E σ H ⟨f, O, ρ, D, r, q, k⟩ => by
  unfold dFrz at q
  split at q
  · next x e =>
    obtain ⟨v, ev, a, e1, oa, fa, oc⟩ := r.sl _ _ e
    subst e1
    obtain ⟨r', _⟩ := r.frz e ev
    exact ⟨f, _, _, D, r', q, k.step fun a o n h => ⟨h, fun z => n z.1⟩⟩
  · exact ⟨f, O, ρ, D, r, q, k⟩
  · exact q.elim
/-! targets -/
abbrev DG := Dt → Ev → (Ev → Prop) → Prop
abbrev DGs := List Dt → Ev → (Ev → Prop) → Prop
/-- only these slots are set -/
def Sets (is : List Nat) (σ σ' : L2.St) : Prop := σ'.length = σ.length ∧ ∀ j, j ∉ is → σ'[j]? = σ[j]?
theorem Sets.one {σ : L2.St} {i : Nat} {v : Option V} : Sets [i] σ (σ.set i v) := ⟨List.length_set, fun j h => List.getElem?_set_ne fun e => h (by rw [e]; exact List.mem_cons_self)⟩
theorem Sets.refl {is : List Nat} {σ : L2.St} : Sets is σ σ := ⟨rfl, fun _ _ => rfl⟩
theorem Sets.trans {is js : List Nat} {σ σ1 σ2 : L2.St} (a : Sets is σ σ1) (b : Sets js σ1 σ2) : Sets (is ++ js) σ σ2 := ⟨b.1.trans a.1, fun j h => (b.2 j fun z => h (List.mem_append_right _ z)).trans (a.2 j fun z => h (List.mem_append_left _ z))⟩
def lG (is : List Nat) (t : DG) : TG := fun v σ H Q => ∃ f O ρ M d, Rel f O H σ ρ ∧ Rp (gO f O) H v d ∧ t d ρ M ∧ ∀ ρ' σ', M ρ' → Rel f O H σ' ρ' → Sets is σ σ' → Q σ' H
def lGs (is : List Nat) (t : DGs) : TGs := fun vs σ H Q => ∃ f O ρ M ds, Rel f O H σ ρ ∧ RpAll (gO f O) H vs ds ∧ t ds ρ M ∧ ∀ ρ' σ', M ρ' → Rel f O H σ' ρ' → Sets is σ σ' → Q σ' H
abbrev VG (X : Cx) (is : List Nat) (e : Expr) (t : DG) : Prop := PG X e (lG is t)
def vName (i : Nat) : DG := fun d ρ M => M (ρ.set i (some (.d d)))
def vgNil : DGs := fun ds ρ M => ds = [] ∧ M ρ
def vgCons (t : DG) (u : DGs) : DGs := fun ds ρ M => match ds with
  | d :: r => t d ρ fun ρ' => u r ρ' M
  | [] => False
def vgTup (n : Nat) (t : DGs) : DG := fun d ρ M => match d with
  | .tup ds => ds.length = n ∧ t ds ρ M
  | _ => False
theorem vg_name {i : Nat} {x : PySem.Str} (hN : X.N.Nodup) (hi : X.N[i]? = some x) (hx : Loc X.env.scope x) (hf : X.fn x = true ∨ X.env.scope.names.lookup x = some .local := by first | exact .inl rfl | exact .inr rfl | assumption) : VG X [i] (.Name x pos) (vName i) :=
  pg_imp (pg_name hN hi hx hf) fun v σ H Q ⟨f, O, ρ, M, d, r, p, q, k⟩ => k _ _ q (r.setD p) .one
theorem vgs_nil : PGs X [] (lGs [] vgNil) := ⟨fun pins s σ H vs us Q I r h => by
  obtain ⟨f, O, ρ, M, ds, rl, p, ⟨e, q⟩, k⟩ := h
  subst e
  cases p
  exact pgs_nil.run pins s σ H _ us Q I r ⟨rfl, k _ _ q rl .refl⟩⟩
theorem vgs_cons {is js : List Nat} {t : DG} {u : DGs} {es : List Expr} (h1 : VG X is e t) (h2 : PGs X es (lGs js u)) (hs : (assignEach (e :: es) X.env).map (·.2) = assign e X.env :: (assignEach es X.env).map (·.2) := by rfl) : PGs X (e :: es) (lGs (is ++ js) (vgCons t u)) := ⟨fun pins s σ H vs us Q I r h => by
  obtain ⟨f, O, ρ, M, ds, rl, p, q, k⟩ := h
  cases p with
  | nil => exact q.elim
  | cons p1 p2 =>
    exact (pgs_cons h1 h2 hs).run pins s σ H _ us Q I r ⟨_, _, rfl, f, O, ρ, _, _, rl, p1, q, fun ρ' σ' m r' s1 => ⟨f, O, ρ', M, _, r', p2, m, fun ρ2 σ2 m2 r2 s2 => k _ _ m2 r2 (s1.trans s2)⟩⟩⟩
theorem vg_tup {is : List Nat} {es : List Expr} {kk : Nat} {t : DGs} {n : Nat} (hc : X.calm = true) (h : PGs X es (lGs is t)) (hn : (assignEach es X.env).length = n := by rfl) (hst : (assignEach es X.env).findIdx? (·.1) = none := by rfl) : VG X is (.Tuple es kk pos) (vgTup n t) :=
  pg_imp (pg_tup hc h hn hst) fun v σ H Q ⟨f, O, ρ, M, d, r, p, q, k⟩ => by
    cases d with
    | tup ds =>
      obtain ⟨a, xs, e, na, ha, pa⟩ := p.tup_inv
      exact ⟨a, xs, e, .inl (.inl ha), pa.len.trans q.1, f, O, ρ, M, ds, r, pa, q.2, k⟩
    | _ => exact q.elim
/-! assignments -/
def dAsg (t : DE) (g : DG) : DS := fun D ρ => t ρ fun d => g d ρ D.nx
def dSet (i : Nat) (t : DE) : DS := fun D ρ => t ρ fun d => D.nx (ρ.set i (some (.d d)))
def dSetO (i : Nat) (t : DE) : DS := fun D ρ => t ρ fun d => D.nx (ρ.set i (some (.own d)))
theorem vs_asg {tg : Expr} {is : List Nat} {t : DE} {g : DG} (he : VE X e t) (hg : VG X is tg g) (hs : swapsWithSole [tg] e pos.line X.env = pure false := by rfl) (hw : swappedStores [tg] e X.env = pure none := by rfl)
    (h1 : (assignEach [tg] X.env).map (·.2) = [assign tg X.env] := by rfl) : VS fr X (.Assign [tg] e pos) (dAsg t g) :=
  ps_imp (ps_asg he hg hs hw h1) fun E σ H ⟨f, O, ρ, D, r, q, k⟩ => ⟨f, O, ρ, _, r, q, fun d v H1 m n p => ⟨f, O, ρ, _, d, r.nxt n, p, m, fun ρ' σ' m2 r2 _ => k.nx _ _ _ _ m2 r2 (n.kep r.ctx)⟩⟩
theorem vs_set {i : Nat} {x : PySem.Str} {t : DE} {pos' : Pos} (hN : X.N.Nodup) (hi : X.N[i]? = some x) (hx : Loc X.env.scope x) (he : VE X e t) (hs : swapsWith e (some (.Name x pos')) pos.line X.env = pure false := by rfl)
    (hf : X.fn x = true ∨ X.env.scope.names.lookup x = some .local := by first | exact .inl rfl | exact .inr rfl | assumption) : VS fr X (.Assign [.Name x pos'] e pos) (dSet i t) :=
  ps_imp (ps_set hN hi hx he hs hf) fun E σ H ⟨f, O, ρ, D, r, q, k⟩ => ⟨f, O, ρ, _, r, q, fun d v H1 m n p => k.nx _ _ _ _ m ((r.nxt n).setD p) (n.kep r.ctx)⟩
theorem kep_new {f : Fr} {O : Addr → Prop} {H H1 : Hp} {σ : L2.St} {ρ : Ev} {a : Addr} (r : Rel f O H σ ρ) (n : Nxt (gO f O) H H1) (na : H a = none) : Kep O H ((gO f O).and a).O H1 := fun x o no e =>
  ⟨(n.kep r.ctx x o no e).1, fun z => Or.elim (show O x ∨ x = a from z) no fun z => by rw [z, na] at e; cases e⟩
theorem vs_setO {i : Nat} {x : PySem.Str} {t : DE} {pos' : Pos} (hN : X.N.Nodup) (hi : X.N[i]? = some x) (hx : Loc X.env.scope x) (he : VF X e t) (hs : swapsWith e (some (.Name x pos')) pos.line X.env = pure false := by rfl)
    (hf : X.fn x = true ∨ X.env.scope.names.lookup x = some .local := by first | exact .inl rfl | exact .inr rfl | assumption) : VS fr X (.Assign [.Name x pos'] e pos) (dSetO i t) :=
  ps_imp (ps_set hN hi hx he hs hf) fun E σ H ⟨f, O, ρ, D, r, q, k⟩ => ⟨f, O, ρ, _, r, q, fun d a H1 m n na p => k.nx _ _ _ _ m (r.setO n na p) (kep_new r n na)⟩
/-! if, return, break, continue, an expression -/
def dIf (t : DT) (u w : DS) : DS := fun D ρ => t ρ fun c => if c = true then u D ρ else w D ρ
theorem vs_if {as bs : List Stmt} {t : DT} {u w : DS} (hc : VT X c t) (ha : VSs fr X as u) (hb : VSs fr X bs w) : VS fr X (.If c as bs pos) (dIf t u w) :=
  ps_imp (ps_if hc ha hb) fun E σ H ⟨f, O, ρ, D, r, q, k⟩ => ⟨f, O, ρ, _, r, q, fun c H' m n => by
    cases c with
    | true => exact ⟨f, O, ρ, D, r.nxt n, m, k.step (n.kep r.ctx)⟩
    | false => exact ⟨f, O, ρ, D, r.nxt n, m, k.step (n.kep r.ctx)⟩⟩
theorem Rel.ret {f : Fr} {O : Addr → Prop} {H H' : Hp} {σ : L2.St} {ρ : Ev} (r : Rel f O H σ ρ) (n : Nxt (gO f O) H H') : Nxt f.g f.H H' := ⟨r.frm.trans n.c, n.bag⟩
def dRet (t : DE) : DS := fun D ρ => t ρ D.rt
theorem vs_ret {t : DE} (he : VE X e t) : VS false X (.Return (some e) pos) (dRet t) :=
  ps_imp (ps_ret he) fun E σ H ⟨f, O, ρ, D, r, q, k⟩ => ⟨f, O, ρ, _, r, q, fun d v H1 m n p => k.rt d v O H1 m (n.kep r.ctx) ⟨r.ret n, p.less (g := gO f O) r.sub⟩⟩
theorem OwnC.less {g g' : Geo} {H : Hp} {a : Addr} {d : Dt} (h : ∀ x, g'.O x → g.O x) (o : OwnC g H a d) : OwnC g' H a d := o.mono (fun x u no e => ⟨e, fun z => no (h x z)⟩) fun _ e => e
theorem vs_retF {t : DE} (he : VF X e t) : VS true X (.Return (some e) pos) (dRet t) :=
  ps_imp (ps_ret he) fun E σ H ⟨f, O, ρ, D, r, q, k⟩ => ⟨f, O, ρ, _, r, q, fun d a H1 m n na p => k.rt d _ O H1 m (n.kep r.ctx) ⟨r.ret n, a, rfl, r.none_of na, p.less (g := (gO f O).and a) fun x z => Or.elim (show f.g.O x ∨ x = a from z) (fun z => Or.inl (r.sub x z)) Or.inr⟩⟩
/-- return of a slot's own thing -/
def dRetV (i : Nat) : DS := fun D ρ => match ρ[i]? with
  | some (some (.own x)) => D.rt x
  | _ => False
theorem vs_retV {i : Nat} {x : PySem.Str} {p' : Pos} (hN : X.N[i]? = some x) (hv : Vis X.env.scope x) (hd : (x == ("__debug__" : PySem.Str)) = false := by decide) (hcd : (x == ("__classdict__" : PySem.Str)) = false := by decide) : VS true X (.Return (some (.Name x p')) pos) (dRetV i) :=
  ps_imp (ps_ret (pe_var hN hv hd hcd)) fun E σ H ⟨f, O, ρ, D, r, q, k⟩ => by
    unfold dRetV at q
    split at q
    · next x e =>
      obtain ⟨v, ev, a, e1, oa, fa, oc⟩ := r.sl _ _ e
      exact ⟨v, ev, k.rt x v O H q .refl ⟨⟨r.frm, r.ctx.bag⟩, a, e1, fa, oc.less (g := gO f O) fun z h => Or.elim (show f.g.O z ∨ z = a from h) (r.sub z) fun h => h ▸ oa⟩⟩
    · exact q.elim
/-- return of a slot, whatever it holds -/
def dRetA (i : Nat) : DS := fun D ρ => match ρ[i]? with
  | some (some (.own x)) => D.rt x
  | some (some (.d x)) => D.rt x
  | _ => False
theorem vs_retA {i : Nat} {x : PySem.Str} {p' : Pos} (hN : X.N[i]? = some x) (hv : Vis X.env.scope x) (hd : (x == ("__debug__" : PySem.Str)) = false := by decide) (hcd : (x == ("__classdict__" : PySem.Str)) = false := by decide) : VS false X (.Return (some (.Name x p')) pos) (dRetA i) :=
  ps_imp (ps_ret (pe_var hN hv hd hcd)) fun E σ H ⟨f, O, ρ, D, r, q, k⟩ => by
    unfold dRetA at q
    split at q
    · next x e =>
      obtain ⟨v, ev, a, e1, oa, fa, oc⟩ := r.sl _ _ e
      subst e1
      obtain ⟨_, rp⟩ := r.frz e ev
      refine ⟨_, ev, k.rt x _ O H q .refl ⟨⟨r.frm, r.ctx.bag⟩, rp.less (g := (gO f O).but a) fun z hz => ⟨r.sub z hz, fun e => ?_⟩⟩⟩
      obtain ⟨o, ho⟩ := r.ctx0.al z hz
      rw [e, fa] at ho; cases ho
    · next x e =>
      obtain ⟨v, ev, p⟩ := r.sl _ _ e
      exact ⟨_, ev, k.rt x _ O H q .refl ⟨⟨r.frm, r.ctx.bag⟩, Rp.less (g := gO f O) r.sub p⟩⟩
    · exact q.elim
def dRetN : DS := fun D _ => D.rt .non
theorem vs_retN : VS false X (.Return none pos) dRetN :=
  ps_imp ps_retN fun E σ H ⟨f, O, ρ, D, r, q, k⟩ => k.rt .non _ O H q .refl ⟨⟨r.frm, r.ctx.bag⟩, .non⟩
def dBreak : DS := fun D ρ => D.bk ρ
def dCont : DS := fun D ρ => D.ct ρ
theorem vs_break : VS fr X (.Break pos) dBreak := ps_imp ps_break fun E σ H ⟨f, O, ρ, D, r, q, k⟩ => k.bk _ _ _ _ q r .refl
theorem vs_cont : VS fr X (.Continue pos) dCont := ps_imp ps_continue fun E σ H ⟨f, O, ρ, D, r, q, k⟩ => k.ct _ _ _ _ q r .refl
theorem vs_pass : VS fr X (.Pass pos) dNext := ps_imp ps_pass fun E σ H ⟨f, O, ρ, D, r, q, k⟩ => k.nx O ρ σ H q r .refl
def dDrop (t : DE) : DS := fun D ρ => t ρ fun _ => D.nx ρ
theorem vs_expr {t : DE} (he : VE X e t) (hs : swapsWith e none pos.line X.env = pure false := by rfl) : VS fr X (.Expr e pos) (dDrop t) :=
  ps_imp (ps_expr he hs) fun E σ H ⟨f, O, ρ, D, r, q, k⟩ => ⟨f, O, ρ, _, r, q, fun d v H1 m n p => k.nx _ _ _ _ m (r.nxt n) (n.kep r.ctx)⟩
/-! ### while -/
def dWhile (t : DT) (u : DS) : DS := fun D ρ => ∃ W : Nat → Ev → Prop, (∃ m, W m ρ) ∧ ∀ m ρ, W m ρ → t ρ fun c => if c = true then u { D with nx := fun ρ' => ∃ m', m' < m ∧ W m' ρ', ct := fun ρ' => ∃ m', m' < m ∧ W m' ρ', bk := D.nx } ρ else D.nx ρ
theorem vs_while {body : List Stmt} {t : DT} {u : DS} (hp : PassesOwn (model X.prog X.w) X.A X.env X.xe) (hc : VT X c t) (hb : VSs fr X body u) : VS fr X (.While c body [] pos) (dWhile t u) :=
  ps_imp (ps_while hp hc hb) fun E σ H ⟨f, O, ρ, D, r, ⟨W, ⟨m0, w0⟩, q⟩, k⟩ => by
    refine ⟨fun m σ' H' => ∃ O' ρ', Rel f O' H' σ' ρ' ∧ Kep O H O' H' ∧ W m ρ', ⟨m0, O, ρ, r, .refl, w0⟩, ?_⟩
    rintro m σ' H' ⟨O', ρ', r', kp, w⟩
    refine ⟨f, O', ρ', _, r', q m ρ' w, fun c H1 mc n => ?_⟩
    have kp1 := kp.trans (n.kep r'.ctx)
    cases c with
    | true =>
      refine ⟨_, fun σ2 H2 h => h, f, O', ρ', _, r'.nxt n, mc, ⟨?_, fun d v O3 H3 m3 q3 r3 => k.rt d v O3 H3 m3 (kp1.trans q3) r3, ?_, ?_⟩⟩
      · rintro O2 ρ2 σ2 H2 ⟨m2, lt, w2⟩ r2 k2
        exact ⟨m2, lt, O2, ρ2, r2, kp1.trans k2, w2⟩
      · exact k.nx.step kp1
      · rintro O2 ρ2 σ2 H2 ⟨m2, lt, w2⟩ r2 k2
        exact ⟨m2, lt, O2, ρ2, r2, kp1.trans k2, w2⟩
    | false => exact k.nx _ _ _ _ mc (r'.nxt n) kp1
/-! ### for -/
/-- J goes through these data -/
structure Goes (g : Geo) (J : It) (ds : List Dt) (H : Hp) : Prop where
  mk ::
  ex : ∃ (G : Hp → Prop) (Y : Nat → Hp → V → Hp → Prop), Walk J ds.length G Y ∧ (∀ O' H', Kep g.O H O' H' → G H') ∧
    ∀ i H2 x H2' O2, Kep g.O H O2 H2 → Ctx ⟨O2, g.b⟩ H2 → Y i H2 x H2' → ∃ d, ds[i]? = some d ∧ Nxt ⟨O2, g.b⟩ H2 H2' ∧ Rp ⟨O2, g.b⟩ H2' x d
abbrev DI := Ev → (List Dt → Prop) → Prop
def lI (t : DI) : TI := fun σ H R => ∃ f O ρ M, Rel f O H σ ρ ∧ t ρ M ∧ ∀ ds J H', M ds → Nxt (gO f O) H H' → Goes (gO f O) J ds H' → R J H'
abbrev VI (X : Cx) (tg iter : Expr) (t : DI) : Prop := PI X tg iter (lI t)
def dFor (t : DI) (g : DG) (u : DS) : DS := fun D ρ => t ρ fun ds => ∃ W : Nat → Ev → Prop, W 0 ρ ∧ (∀ i d ρ, ds[i]? = some d → W i ρ → g d ρ fun ρ2 => u { D with nx := W (i + 1), ct := W (i + 1), bk := D.nx } ρ2) ∧ ∀ ρ, W ds.length ρ → D.nx ρ
theorem vs_for {tg iter : Expr} {body : List Stmt} {is : List Nat} {t : DI} {g : DG} {u : DS} (hp : PassesOwn (model X.prog X.w) X.A X.env X.xe) (hc : X.calm = true) (hi : VI X tg iter t) (hg : VG X is tg g) (hb : VSs fr X body u)
    (hs : ∀ x, foldedSetIterable iter X.env x = pure x := by intro _; rfl) : VS fr X (.For tg iter body [] pos) (dFor t g u) :=
  ps_imp (ps_for hp hc hi hg hb hs) fun E σ H ⟨f, O, ρ, D, r, q, k⟩ => by
    refine ⟨f, O, ρ, _, r, q, fun ds J H1 ⟨W, w0, turn, done⟩ n go => ?_⟩
    obtain ⟨G, Y, wk, hG, hY⟩ := go.ex
    have kp1 := n.kep r.ctx
    refine for_it wk (fun i σ' H' => ∃ O' ρ', Rel f O' H' σ' ρ' ∧ Kep O H1 O' H' ∧ W i ρ') ⟨O, ρ, r.nxt n, .refl, w0⟩ ?_ ?_ ?_
    · rintro i σ' H' _ ⟨O', ρ', r', kp, w⟩
      exact hG O' H' kp
    · rintro i x σ' H' H2 hi ⟨O', ρ', r', kp, w⟩ y
      obtain ⟨d, hd, n2, p2⟩ := hY i H' x H2 O' kp r'.ctx y
      have kp2 := kp.trans (n2.kep r'.ctx)
      refine ⟨f, O', ρ', _, d, r'.nxt n2, p2, turn i d ρ' hd w, fun ρ2 σ2 m2 r2 _ => ?_⟩
      refine ⟨f, O', ρ2, _, r2, m2, ⟨?_, fun d v O3 H3 m3 q3 r3 => k.rt d v O3 H3 m3 ((kp1.trans kp2).trans q3) r3, ?_, ?_⟩⟩
      · exact fun O3 ρ3 σ3 H3 m3 r3 k3 => ⟨O3, ρ3, r3, kp2.trans k3, m3⟩
      · exact k.nx.step (kp1.trans kp2)
      · exact fun O3 ρ3 σ3 H3 m3 r3 k3 => ⟨O3, ρ3, r3, kp2.trans k3, m3⟩
    · rintro σ' H' ⟨O', ρ', r', kp, w⟩
      exact k.nx _ _ _ _ (done ρ' w) r' (kp1.trans kp)
end
/-! ### defs -/
abbrev DSp := List Ar → (Dt → Prop) → Prop
def vsp (fr : Bool) (sp : DSp) : Sp := fun vs H Q _ => ∃ g as M, Ctx g H ∧ Paired (RAr g H) vs as ∧ sp as M ∧ ∀ d v H', M d → Ret fr ⟨g, H⟩ v H' d → Q v H'
def slotA : Ar → Option W
  | .d x => some (.d x)
  | .ro x => some (.ro x)
  | .bag => some .bag
def stEv (N : List PySem.Str) (as : List Ar) : Ev := as.map slotA ++ List.replicate (N.length - as.length) none
theorem pd_get {α β : Type} {F : α → β → Prop} : ∀ {xs : List α} {ys : List β} {i : Nat} {y : β}, Paired F xs ys → ys[i]? = some y → ∃ x, xs[i]? = some x ∧ F x y
  | _, _, _, _, .nil, h => by simp at h
  | _, _, 0, _, .cons a _, h => by simp at h; subst h; exact ⟨_, rfl, a⟩
  | _, _, i + 1, _, .cons _ t, h => pd_get (i := i) t (by simpa using h)
theorem rel_start {g : Geo} {H : Hp} {vs : List V} {as : List Ar} {N : List PySem.Str} (c : Ctx g H) (p : Paired (RAr g H) vs as) : Rel ⟨g, H⟩ g.O H (L2.start N vs) (stEv N as) := by
  have l := pd_len p
  have key : ∀ (i : Nat) (w : W), (stEv N as)[i]? = some (some w) → ∃ a v, as[i]? = some a ∧ vs[i]? = some v ∧ slotA a = some w ∧ RAr g H v a := fun i w e => by
    unfold stEv at e
    rw [List.getElem?_append] at e
    split at e
    · rw [List.getElem?_map] at e
      obtain ⟨a, ha, e'⟩ := Option.map_eq_some_iff.mp e
      obtain ⟨v, hv, r⟩ := pd_get p ha
      exact ⟨a, v, ha, hv, e', r⟩
    · rw [List.getElem?_replicate] at e
      split at e <;> simp at e
  refine ⟨?_, c, c, .refl, fun _ h => h, fun i w e => ?_, fun i j x y a e1 e2 _ _ => ?_⟩
  · unfold L2.start stEv
    simp [l]
  · obtain ⟨a, v, ha, hv, sa, r⟩ := key i w e
    refine ⟨v, ?_, ?_⟩
    · unfold L2.start
      rw [List.getElem?_append_left (by rw [List.length_map]; exact (List.getElem?_eq_some_iff.mp hv).1), List.getElem?_map, hv]; rfl
    · cases a with
      | d x => cases sa; exact r
      | bag => cases sa; exact r
      | ro x => cases sa; exact r
  · obtain ⟨a', v, ha, hv, sa, r⟩ := key i _ e1
    cases a' <;> cases sa
section
variable {P : Program} {w : World} {K : PySem.W.Frag} {mg : PySem.Str → Option Value} {base : Heap} {k : Nat} {f : Addr} {fd : FuncData}
theorem vfn {x qual : PySem.Str} {st : Stmt} {N ps : List PySem.Str} {fr : Bool} {sp : DSp} (F : Fun K x qual st f fd) (S : FnScope N ps (defScope st)) (len : ∀ as M, sp as M → as.length = ps.length)
    (body : ∀ (cdv : Value) (A : Around) (outer : List Env) (s : Shared) (H : Hp) (E : XK), A.guards = some [] → Room k (A.deeper (envOfC qual (defScope st) s.heap.objs.size f cdv)) →
      ∃ t : DS, VSs fr (cxOf CX0 P w K mg base N qual (defScope st) f cdv A outer s H E).nox (defBody st) t ∧ ∀ as M, sp as M → t { nx := fun _ => match fr with | true => False | false => M .non, rt := M } (stEv N as)) :
    Ok0 P w K mg base (k + 1) f fd ps (vsp fr sp) := by
  refine Ok0.mk_of F S (fun vs H Q E h => ?_) (fun cdv A outer s H vs Q E hg hr h => ?_)
  · obtain ⟨g, as, M, c, p, q, _⟩ := h
    rw [pd_len p]; exact len as M q
  · obtain ⟨g, as, M, c, p, q, z⟩ := h
    obtain ⟨t, ht, hq⟩ := body cdv A outer s H E hg hr
    refine ⟨_, ht, ⟨g, H⟩, g.O, stEv N as, _, rel_start c p, hq as M q, ⟨?_, fun d v _ H' m _ r => z d v H' m r, fun _ _ _ _ h => h.elim, fun _ _ _ _ h => h.elim⟩⟩
    intro O' ρ' σ' H' m r' kp
    cases fr with
    | true => exact False.elim m
    | false => exact z .non _ H' m ⟨⟨r'.frm, r'.ctx.bag⟩, .non⟩
theorem vsp_imp {ps : List PySem.Str} {fr : Bool} {sp sp' : DSp} (F : Ok0 P w K mg base k f fd ps (vsp fr sp)) (h : ∀ as M, sp' as M → sp as M) : Ok0 P w K mg base k f fd ps (vsp fr sp') :=
  ⟨fun vs H Q E ⟨g, as, M, c, p, q, z⟩ => F.cnt vs H Q E ⟨g, as, M, c, p, h _ _ q, z⟩, fun A outer s H args us vs Q E hgd hr e0 hb r ⟨g, as, M, c, p, q, z⟩ => F.go A outer s H args us vs Q E hgd hr e0 hb r ⟨g, as, M, c, p, h _ _ q, z⟩⟩
end
section
variable {X : Cx} {k : Nat} {f : Addr} {fd : FuncData} {ps : List PySem.Str} {sp : DSp} {x : PySem.Str} {p pos : Pos} {e : Expr} {es : List Expr} {t : DA}
def vDef (sp : DSp) (t : DA) : DE := fun ρ M => t ρ fun as => sp as M
theorem ve_call (F : Ok0 X.prog X.w X.K X.mg X.base k f fd ps (vsp false sp)) (hgd : X.A.guards = some []) (hr : Room k X.A) (hg : Gl X x) (hm : X.mg x = some (.ref f)) (hk : PySem.W.keepIn X.K (.ref f) = true)
    (hb : Binds X.K fd ps []) (ha : VA X (e :: es) t) (hdb : (x == ("__debug__" : PySem.Str)) = false := by decide)
    (he : starEach (e :: es) X.env = (false, eval e X.env) :: starEach es X.env := by rfl) (hpl : (backTo pos (starEach es X.env)).any (·.1) = false := by rfl) : VE X (.Call (.Name x p) (e :: es) [] pos) (vDef sp t) :=
  pe_imp (pe_call00 F hgd hr hg hm hk hb ha hdb he hpl) fun σ H Q ⟨f, O, ρ, M, r, q, z⟩ => ⟨f, O, ρ, _, r, q, fun as vs H1 m n p => ⟨gO f O, as, M, (r.nxt n).ctx, p, m, fun d v H2 m2 ⟨n2, p2⟩ => z d v H2 m2 (n.trans n2) p2⟩⟩
theorem vf_call (F : Ok0 X.prog X.w X.K X.mg X.base k f fd ps (vsp true sp)) (hgd : X.A.guards = some []) (hr : Room k X.A) (hg : Gl X x) (hm : X.mg x = some (.ref f)) (hk : PySem.W.keepIn X.K (.ref f) = true)
    (hb : Binds X.K fd ps []) (ha : VA X (e :: es) t) (hdb : (x == ("__debug__" : PySem.Str)) = false := by decide)
    (he : starEach (e :: es) X.env = (false, eval e X.env) :: starEach es X.env := by rfl) (hpl : (backTo pos (starEach es X.env)).any (·.1) = false := by rfl) : VF X (.Call (.Name x p) (e :: es) [] pos) (vDef sp t) :=
  pe_imp (pe_call00 F hgd hr hg hm hk hb ha hdb he hpl) fun σ H Q ⟨f, O, ρ, M, r, q, z⟩ => ⟨f, O, ρ, _, r, q, fun as vs H1 m n p => ⟨gO f O, as, M, (r.nxt n).ctx, p, m, fun d v H2 m2 ⟨n2, a, e, na, oc⟩ => by
    subst e
    exact z d a H2 m2 (n.trans n2) (none_before n na) oc⟩⟩
end
end VL
/-! Texts, purely: names, paths, numbers as shown, weights of texts. -/
namespace DK
open PySem PySem.Spec PyProof.Rows L2 TL RX
def Lt : PySem.Str := "abcdefghijklmnopqrstuvwxyz"
def Nz : PySem.Str := "abcdefghijklmnopqrstuvwxyz0123456789-"
def headIn (x : PySem.Str) : Bool := match x.cps.toList with | c :: _ => decide (c ∈ Lt.cps.toList) | [] => false
def allIn (z : PySem.Str) (l : List Nat) : Bool := l.all fun c => decide (c ∈ z.cps.toList)
def Dot : PySem.Str := "."
def Fg : PySem.Str := "0123456789"
theorem fg_mem {c : Nat} (h : c ∈ Fg.cps.toList) : 48 ≤ c ∧ c ≤ 57 := by
  have e : Fg.cps.toList = [48, 49, 50, 51, 52, 53, 54, 55, 56, 57] := by decide +kernel
  rw [e] at h
  simp only [List.mem_cons, List.not_mem_nil, or_false] at h
  omega
theorem mem_fg {c : Nat} (h : 48 ≤ c ∧ c ≤ 57) : c ∈ Fg.cps.toList := by
  have e : Fg.cps.toList = [48, 49, 50, 51, 52, 53, 54, 55, 56, 57] := by decide +kernel
  rw [e]
  simp only [List.mem_cons, List.not_mem_nil, or_false]
  omega
/-- the first sign is no nought -/
def headOk (w : PySem.Str) : Bool := match w.cps.toList with | c :: _ => !decide (c = 48) | [] => true
def val (w : PySem.Str) : Int := ((intText? w).getD 0)
def Bk : PySem.Str := " "
def Nl : PySem.Str := "\n"
def Sl : PySem.Str := "/"
theorem tl_bk : tl Bk = [32] := by decide +kernel
theorem tl_nl : tl Nl = [10] := by decide +kernel
theorem tl_sl : tl Sl = [47] := by decide +kernel
theorem str_nil {t : PySem.Str} : t = "" ↔ tl t = [] := ⟨fun h => by rw [h]; decide +kernel, fun h => ext_tl (by rw [h]; decide +kernel)⟩
/-- whether it is a NAME -/
def isNm (x : PySem.Str) : Bool := decide (1 ≤ x.length) && decide (x.length ≤ 20) && (headIn x && allIn Nz x.cps.toList)
theorem head_at {x : PySem.Str} (h : 1 ≤ x.length) : ∃ c, atI x.cps.toList 0 = some c ∧ headIn x = decide (c ∈ Lt.cps.toList) := by
  unfold headIn
  have hl : 1 ≤ x.cps.toList.length := h
  cases e : x.cps.toList with
  | nil => rw [e] at hl; simp at hl
  | cons c l => exact ⟨c, atI_nat (j := 0) rfl, rfl⟩
theorem name_sign {x : PySem.Str} (h : isNm x = true) : (∀ c ∈ tl x, c ∈ Nz.cps.toList) ∧ 1 ≤ x.length ∧ x.length ≤ 20 := by
  have h' : (decide (1 ≤ x.length) && decide (x.length ≤ 20) && (headIn x && allIn Nz x.cps.toList)) = true := h
  simp only [Bool.and_eq_true, decide_eq_true_eq] at h'
  exact ⟨fun c hc => of_decide_eq_true (List.all_eq_true.mp h'.2.2 c hc), h'.1.1, h'.1.2⟩
/-- pieces are not longer -/
theorem spl_len (S : List Nat) : ∀ (l : List Nat) (k : Nat) (acc : List Nat), ∀ p ∈ spl S k acc l, p.length ≤ acc.length + l.length := by
  intro l
  induction l with
  | nil =>
    intro k acc p hp
    rw [spl_nil, List.mem_singleton] at hp
    rw [hp]
    exact Nat.le_add_right _ _
  | cons c r ih =>
    intro k acc p hp
    rw [List.length_cons]
    cases k with
    | zero =>
      by_cases h : pre S (c :: r) = true
      · rw [spl_hit h] at hp
        rcases List.mem_cons.mp hp with e | e
        · rw [e]; omega
        · have := ih _ _ p e
          simp only [List.length_nil] at this
          omega
      · rw [spl_miss (by simpa using h)] at hp
        have := ih _ _ p hp
        rw [List.length_append, List.length_singleton] at this
        omega
    | succ k =>
      have := ih k acc p hp
      omega
theorem spl_many (S : List Nat) : ∀ (l : List Nat) (k : Nat) (acc : List Nat), (spl S k acc l).length ≤ l.length + 1 := by
  intro l
  induction l with
  | nil => intro k acc; rw [spl_nil]; exact Nat.le_refl _
  | cons c r ih =>
    intro k acc
    rw [List.length_cons]
    cases k with
    | zero =>
      by_cases h : pre S (c :: r) = true
      · rw [spl_hit h, List.length_cons]
        have := ih (S.length - 1) []
        omega
      · rw [spl_miss (by simpa using h)]
        have := ih 0 (acc ++ [c])
        omega
    | succ k =>
      have := ih k acc
      show (spl S k acc r).length ≤ _
      omega
theorem pre_one (s c : Nat) (r : List Nat) : pre [s] (c :: r) = decide (c = s) := by
  show ((c :: r).take 1 == [s]) = _
  by_cases h : c = s
  · rw [h, decide_eq_true rfl]
    simp
  · rw [decide_eq_false h]
    simp [h]
theorem spl_free (s : Nat) : ∀ (l acc : List Nat), s ∉ acc → ∀ p ∈ spl [s] 0 acc l, s ∉ p
  | [], acc, h, p, hp => by
    rw [spl_nil, List.mem_singleton] at hp
    rw [hp]; exact h
  | c :: r, acc, h, p, hp => by
    by_cases e : c = s
    · rw [spl_hit (by rw [pre_one, decide_eq_true e])] at hp
      rcases List.mem_cons.mp hp with z | z
      · rw [z]; exact h
      · exact spl_free s r [] (by simp) p z
    · rw [spl_miss (by rw [pre_one, decide_eq_false e])] at hp
      refine spl_free s r _ (fun z => ?_) p hp
      rcases List.mem_append.mp z with y | y
      · exact h y
      · rw [List.mem_singleton] at y; exact e y.symm
theorem split_map {x y : PySem.Str} {s : Nat} (ey : tl y = [s]) (hk : y.cps.all (· < 256) = true) : (Txt.split x y).map tl = spl [s] 0 [] (tl x) := by
  rw [split_spl x y (by rw [ey]; simp) (kind_ok hk), ey]
theorem split_free {x y : PySem.Str} {s : Nat} (ey : tl y = [s]) (hk : y.cps.all (· < 256) = true) : ∀ w ∈ Txt.split x y, s ∉ tl w := fun w hw => by
  have h1 : tl w ∈ (Txt.split x y).map tl := List.mem_map_of_mem hw
  rw [split_map ey hk] at h1
  exact spl_free s _ _ (by simp) _ h1
theorem mem_joinL {c : Nat} {S : List Nat} : ∀ {ps : List (List Nat)}, c ∈ joinL S ps → c ∈ S ∨ ∃ p ∈ ps, c ∈ p
  | [], h => by simp [joinL] at h
  | [p], h => .inr ⟨p, List.mem_cons_self, h⟩
  | p :: q :: r, h => by
    have h' : c ∈ p ++ (S ++ joinL S (q :: r)) := h
    rw [List.mem_append, List.mem_append] at h'
    rcases h' with h1 | h1 | h1
    · exact .inr ⟨p, List.mem_cons_self, h1⟩
    · exact .inl h1
    · rcases mem_joinL h1 with h2 | ⟨p', m, h2⟩
      · exact .inl h2
      · exact .inr ⟨p', List.mem_cons_of_mem _ m, h2⟩
theorem mem_join {c : Nat} {y : PySem.Str} {ps : List PySem.Str} (h : c ∈ tl (Txt.join y ps)) : c ∈ tl y ∨ ∃ p ∈ ps, c ∈ tl p := by
  rw [join_eq, tl_join] at h
  rcases mem_joinL h with h1 | ⟨p, m, h1⟩
  · exact .inl h1
  · obtain ⟨z, hz, rfl⟩ := List.mem_map.mp m
    exact .inr ⟨z, hz, h1⟩
theorem join_one (y q : PySem.Str) : Txt.join y [q] = q := by rw [join_eq]; rfl
theorem split_len {x y w : PySem.Str} {s : Nat} (ey : tl y = [s]) (hk : y.cps.all (· < 256) = true) (h : w ∈ Txt.split x y) : w.length ≤ x.length := by
  have h1 : tl w ∈ (Txt.split x y).map tl := List.mem_map_of_mem h
  rw [split_map ey hk] at h1
  have := spl_len _ _ _ _ _ h1
  rw [len_tl, len_tl]
  simpa using this
theorem split_many {x y : PySem.Str} {s : Nat} (ey : tl y = [s]) (hk : y.cps.all (· < 256) = true) : (Txt.split x y).length ≤ x.length + 1 := by
  have e := congrArg List.length (split_map (x := x) ey hk)
  rw [List.length_map] at e
  rw [e, len_tl]
  exact spl_many _ _ _ _
theorem split_ne {x y : PySem.Str} {s : Nat} (ey : tl y = [s]) (hk : y.cps.all (· < 256) = true) : Txt.split x y ≠ [] := fun e => by
  have z := split_map (x := x) ey hk
  rw [e] at z
  have h : ∀ (l acc : List Nat), spl [s] 0 acc l ≠ [] := by
    intro l
    induction l with
    | nil => intro acc; rw [spl_nil]; simp
    | cons c r ih =>
      intro acc
      by_cases h : pre [s] (c :: r) = true
      · rw [spl_hit h]; simp
      · rw [spl_miss (by simpa using h)]; exact ih _
  exact h _ _ z.symm
/-- parted at s it is just these -/
theorem split_iff {x y : PySem.Str} {s : Nat} {ps : List PySem.Str} (ey : tl y = [s]) (hk : y.cps.all (· < 256) = true) (hn : ps ≠ []) (hp : ∀ p ∈ ps, s ∉ tl p) : Txt.split x y = ps ↔ x = Txt.join y ps := by
  refine ⟨fun h => ?_, fun h => ?_⟩
  · rw [← h, join_eq]
    exact (StrLaws.join_split x y).symm
  · rw [h]
    exact split_join ey hk hn hp
/-- the signs of pieces are those of the whole -/
theorem split_sign {x y w : PySem.Str} (h : w ∈ Txt.split x y) : ∀ c ∈ tl w, c ∈ tl x := by
  intro c hc
  have e := StrLaws.join_split x y
  have z : tl x = joinL (tl y) ((Txt.split x y).map tl) := by
    rw [← tl_join, e]
  rw [z]
  have key : ∀ (ps : List (List Nat)) (p : List Nat), p ∈ ps → c ∈ p → c ∈ joinL (tl y) ps := by
    intro ps
    induction ps with
    | nil => intro p hp; cases hp
    | cons q r ih =>
      intro p hp hcp
      cases r with
      | nil => rw [List.mem_singleton.mp hp] at hcp; exact hcp
      | cons q2 r2 =>
        show c ∈ q ++ (tl y ++ joinL (tl y) (q2 :: r2))
        rcases List.mem_cons.mp hp with e | hp
        · rw [← e]; exact List.mem_append_left _ hcp
        · exact List.mem_append_right _ (List.mem_append_right _ (ih p hp hcp))
  exact key _ _ (List.mem_map_of_mem h) hc
/-! weights -/
def W (f : Nat → Nat) (x : PySem.Str) : Nat := ((tl x).map f).sum
section
variable {f : Nat → Nat}
theorem W_app (a b : PySem.Str) : W f (a ++ b) = W f a + W f b := by
  unfold W
  rw [tl_append, List.map_append, List.sum_append]
theorem W_joinL (S : List Nat) : ∀ ps : List (List Nat), ((joinL S ps).map f).sum ≤ (ps.map fun p => (p.map f).sum).sum + ps.length * (S.map f).sum ∧ (ps.map fun p => (p.map f).sum).sum ≤ ((joinL S ps).map f).sum
  | [] => ⟨Nat.zero_le _, Nat.zero_le _⟩
  | [p] => by
    show ((p.map f).sum) ≤ ((p.map f).sum + 0) + 1 * (S.map f).sum ∧ ((p.map f).sum + 0) ≤ (p.map f).sum
    omega
  | p :: q :: r => by
    have ih := W_joinL S (q :: r)
    have e : ((joinL S (p :: q :: r)).map f).sum = (p.map f).sum + ((S.map f).sum + ((joinL S (q :: r)).map f).sum) := by
      show ((p ++ (S ++ joinL S (q :: r))).map f).sum = _
      rw [List.map_append, List.map_append, List.sum_append, List.sum_append]
    rw [e, List.map_cons, List.sum_cons, List.length_cons, Nat.succ_mul]
    omega
theorem W_join (y : PySem.Str) (ps : List PySem.Str) : W f (Txt.join y ps) ≤ (ps.map (W f)).sum + ps.length * W f y ∧ (ps.map (W f)).sum ≤ W f (Txt.join y ps) := by
  have h := W_joinL (f := f) (tl y) (ps.map tl)
  rw [List.map_map, List.length_map] at h
  unfold W
  rw [join_eq, tl_join]
  exact h
theorem W_split (x y : PySem.Str) : ((Txt.split x y).map (W f)).sum ≤ W f x := by
  have h := (W_join (f := f) y (Txt.split x y)).2
  have e := StrLaws.join_split x y
  rw [join_eq, e] at h
  exact h
theorem W_mem {x y w : PySem.Str} (h : w ∈ Txt.split x y) : W f w ≤ W f x := by
  refine Nat.le_trans ?_ (W_split x y)
  have key : ∀ ps : List PySem.Str, w ∈ ps → W f w ≤ (ps.map (W f)).sum := by
    intro ps
    induction ps with
    | nil => intro h; cases h
    | cons p r ih =>
      intro h
      rw [List.map_cons, List.sum_cons]
      rcases List.mem_cons.mp h with e | h
      · rw [e]; omega
      · have := ih h; omega
  exact key _ h
theorem sum_sub : ∀ {l m : List Nat}, l.Sublist m → (l.map f).sum ≤ (m.map f).sum
  | _, _, .slnil => Nat.le_refl _
  | _, _, .cons a h => by rw [List.map_cons, List.sum_cons]; have := sum_sub h; omega
  | _, _, .cons_cons a h => by rw [List.map_cons, List.sum_cons, List.map_cons, List.sum_cons]; have := sum_sub h; omega
theorem sum_subS : ∀ {l m : List PySem.Str}, l.Sublist m → (l.map (W f)).sum ≤ (m.map (W f)).sum
  | _, _, .slnil => Nat.le_refl _
  | _, _, .cons a h => by rw [List.map_cons, List.sum_cons]; have := sum_subS h; omega
  | _, _, .cons_cons a h => by rw [List.map_cons, List.sum_cons, List.map_cons, List.sum_cons]; have := sum_subS h; omega
theorem cut_sub (x : PySem.Str) (lo hi : Option Int) : (tl (cutS x lo hi)).Sublist (tl x) := by
  show (((x.cps.toList.drop _).take _).toArray.toList).Sublist x.cps.toList
  exact (List.take_sublist _ _).trans (List.drop_sublist _ _)
theorem W_cut (x : PySem.Str) (lo hi : Option Int) : W f (cutS x lo hi) ≤ W f x := sum_sub (cut_sub x lo hi)
end
/-- signs, figures -/
def dg (c : Nat) : Nat := if 48 ≤ c ∧ c ≤ 57 then 1 else 0
theorem W_one (x : PySem.Str) : W (fun _ => 1) x = x.length := by
  unfold W
  rw [len_tl]
  induction tl x with
  | nil => rfl
  | cons c l ih => rw [List.map_cons, List.sum_cons, ih, List.length_cons]; omega
theorem W_digits {x : PySem.Str} (h : allIn Fg x.cps.toList = true) : W dg x = x.length := by
  unfold W
  rw [len_tl]
  have : ∀ l : List Nat, (∀ c ∈ l, 48 ≤ c ∧ c ≤ 57) → (l.map dg).sum = l.length := by
    intro l
    induction l with
    | nil => intro _; rfl
    | cons c l ih =>
      intro h
      rw [List.map_cons, List.sum_cons, ih fun d hd => h d (List.mem_cons_of_mem _ hd), List.length_cons]
      have := h c List.mem_cons_self
      unfold dg
      rw [if_pos this]
      omega
  exact this _ fun c hc => fg_mem (of_decide_eq_true (List.all_eq_true.mp h c hc))
theorem W_dg_le (x : PySem.Str) : W dg x ≤ x.length := by
  unfold W
  rw [len_tl]
  induction tl x with
  | nil => exact Nat.le_refl _
  | cons c l ih =>
    rw [List.map_cons, List.sum_cons, List.length_cons]
    have : dg c ≤ 1 := by unfold dg; split <;> omega
    omega
/-- a text of at most n signs, at most g figures -/
structure Tm (n g : Nat) (x : PySem.Str) : Prop where
  len : x.length ≤ n
  dig : W dg x ≤ g
  ok : ∀ c ∈ tl x, c < 0x110000
theorem Tm.up {n g n' g' : Nat} {x : PySem.Str} (h : Tm n g x) (a : n ≤ n') (b : g ≤ g') : Tm n' g' x := ⟨Nat.le_trans h.len a, Nat.le_trans h.dig b, h.ok⟩
theorem Tm.cut {n g : Nat} {x : PySem.Str} (h : Tm n g x) (lo hi : Option Int) : Tm n g (cutS x lo hi) :=
  ⟨Nat.le_trans (cutS_length _ _ _) h.len, Nat.le_trans (W_cut _ _ _) h.dig, fun c hc => h.ok c ((cut_sub x lo hi).mem hc)⟩
theorem Tm.app {n g m k : Nat} {x y : PySem.Str} (h : Tm n g x) (h' : Tm m k y) : Tm (n + m) (g + k) (x ++ y) := by
  refine ⟨?_, ?_, fun c hc => ?_⟩
  · rw [strLen_append]; have := h.len; have := h'.len; omega
  · rw [W_app]; have := h.dig; have := h'.dig; omega
  · rw [tl_append] at hc
    exact (List.mem_append.mp hc).elim (h.ok c) (h'.ok c)
theorem Tm.piece {n g : Nat} {x y w : PySem.Str} {s : Nat} (h : Tm n g x) (ey : tl y = [s]) (hk : y.cps.all (· < 256) = true) (m : w ∈ Txt.split x y) : Tm n g w :=
  ⟨Nat.le_trans (split_len ey hk m) h.len, Nat.le_trans (W_mem m) h.dig, fun c hc => h.ok c (split_sign m c hc)⟩
/-! numbers as they are shown -/
def num (n : Int) : PySem.Str := PySem.Str.ofString (toString n)
def allD (w : PySem.Str) : Bool := decide (1 ≤ w.length) && allIn Fg w.cps.toList
/-- no needless nought -/
def good (w : PySem.Str) : Bool := decide (V.str w = V.str "0") || headOk w
theorem allD_val {w : PySem.Str} (h : allD w = true) (h6 : w.length ≤ 640) : intText? w = some (val w) ∧ val w = (NumText.digitsVal w.cps.toList : Nat) ∧ NumText.digitsVal w.cps.toList < 10 ^ w.length := by
  unfold allD at h
  simp only [Bool.and_eq_true, decide_eq_true_eq] at h
  have hd : NumText.AllDigits w.cps.toList := fun c hc => fg_mem (of_decide_eq_true (List.all_eq_true.mp h.2 c hc))
  have hl : w.length = w.cps.toList.length := by simp [PySem.Str.length]
  have hne : w.cps.toList ≠ [] := fun e => by
    rw [hl, e] at h
    simp at h
  have e1 := intText_digits hd hne (by omega)
  have ev : val w = (NumText.digitsVal w.cps.toList : Nat) := by
    unfold val
    rw [e1]
    rfl
  refine ⟨by rw [ev]; exact e1, ev, ?_⟩
  have fold : ∀ (l : List Nat) (a : Nat), NumText.AllDigits l → l.foldl (fun acc c => acc * 10 + (c - 48)) a < (a + 1) * 10 ^ l.length := by
    intro l
    induction l with
    | nil => intro a _; simp
    | cons c l ih =>
      intro a h
      have hc := h.head
      have z := ih (a * 10 + (c - 48)) h.tail
      rw [List.foldl_cons, List.length_cons, Nat.pow_succ]
      have e1 : a * 10 + (c - 48) + 1 ≤ (a + 1) * 10 := by omega
      have e2 : (a * 10 + (c - 48) + 1) * 10 ^ l.length ≤ (a + 1) * 10 * 10 ^ l.length := Nat.mul_le_mul_right _ e1
      have e3 : (a + 1) * 10 * 10 ^ l.length = (a + 1) * (10 ^ l.length * 10) := by rw [Nat.mul_assoc, Nat.mul_comm 10]
      omega
  have z := fold w.cps.toList 0 hd
  unfold NumText.digitsVal
  rw [hl]
  omega
theorem log_le {i : Int} {k : Nat} (h : i.natAbs < 10 ^ k) (hk : k ≤ 570) : i.natAbs.log2 < 1920 := by
  by_cases h0 : i.natAbs = 0
  · rw [h0]; decide
  · refine (Nat.log2_lt h0).mpr (Nat.lt_of_lt_of_le h (Nat.le_trans (Nat.pow_le_pow_right (by decide) hk) ?_))
    decide +kernel
theorem back : ∀ (k : Nat) (l : List Nat), l.length = k → l ≠ [] → (∀ c ∈ l, 48 ≤ c ∧ c ≤ 57) → (l = [48] ∨ l.head? ≠ some 48) → numL (NumText.digitsVal l) = l := by
  intro k
  induction k with
  | zero => intro l h n; exact absurd (List.length_eq_zero_iff.mp h) n
  | succ k ih =>
    intro l h n hd hh
    have e := (List.dropLast_concat_getLast n).symm
    have hc := hd _ (List.getLast_mem n)
    generalize l.getLast n = c at e hc
    have lr : l.dropLast.length = k := by rw [List.length_dropLast]; omega
    have dr : ∀ c ∈ l.dropLast, 48 ≤ c ∧ c ≤ 57 := fun c h => hd c (List.dropLast_subset _ h)
    generalize l.dropLast = r at e lr dr
    have dv : NumText.digitsVal l = NumText.digitsVal r * 10 + (c - 48) := by
      unfold NumText.digitsVal
      rw [e, List.foldl_append]
      rfl
    by_cases hr : r = []
    · subst hr
      have : NumText.digitsVal l = c - 48 := by rw [dv]; show 0 * 10 + (c - 48) = _; omega
      rw [this, numL_lt (by omega), e]
      show [48 + (c - 48)] = [c]
      congr 1
      omega
    · have hh2 : r.head? ≠ some 48 := by
        rcases hh with z | z
        · rw [e] at z
          cases r with
          | nil => exact absurd rfl hr
          | cons a t => simp at z
        · rw [e] at z
          cases r with
          | nil => exact absurd rfl hr
          | cons a t => exact z
      have i := ih r lr hr dr (.inr hh2)
      have p : NumText.digitsVal r ≠ 0 := fun z => by
        rw [z] at i
        have : numL 0 = [48] := numL_lt (by decide)
        rw [this] at i
        rw [← i] at hh2
        exact hh2 rfl
      rw [dv, numL_step (by omega)]
      have d1 : (NumText.digitsVal r * 10 + (c - 48)) / 10 = NumText.digitsVal r := by omega
      have d2 : (NumText.digitsVal r * 10 + (c - 48)) % 10 = c - 48 := by omega
      rw [d1, d2, i, e]
      have : 48 + (c - 48) = c := by omega
      rw [this]
theorem numL_head : ∀ m : Nat, m ≠ 0 → (numL m).head? ≠ some 48 := by
  intro m
  induction m using Nat.strongRecOn with
  | _ m ih =>
    intro hm
    by_cases h : m < 10
    · rw [numL_lt h]
      simp
      omega
    · rw [numL_step (by omega)]
      have := ih (m / 10) (by omega) (by omega)
      have ne := numL_ne (m / 10)
      cases e : numL (m / 10) with
      | nil => exact absurd e ne
      | cons c r => rw [e] at this; simpa using this
theorem num_good (m : Nat) : good (num (m : Int)) = true := by
  have et : tl (num (m : Int)) = numL m := tl_num m
  unfold good
  by_cases z : m = 0
  · subst z
    rw [decide_eq_true (by decide +kernel)]
    rfl
  · have : headOk (num (m : Int)) = true := by
      unfold headOk
      have et' : (num (m : Int)).cps.toList = numL m := et
      rw [et']
      have k := numL_head m z
      cases e : numL m with
      | nil => rfl
      | cons c r =>
        rw [e] at k
        simp only [List.head?_cons, ne_eq, Option.some.injEq] at k
        simp [k]
    rw [this, Bool.or_true]
theorem num_allD (m : Nat) : allD (num (m : Int)) = true := by
  have et : tl (num (m : Int)) = numL m := tl_num m
  unfold allD
  rw [Bool.and_eq_true]
  refine ⟨decide_eq_true ?_, List.all_eq_true.mpr fun c hc => decide_eq_true (mem_fg (numL_digits m c (by rw [← et]; exact hc)))⟩
  rw [len_tl, et]
  exact List.length_pos_iff.mpr (numL_ne m)
theorem num_free (m : Nat) {s : Nat} (h : s < 48 ∨ 57 < s) : s ∉ tl (num (m : Int)) := by
  have et : tl (num (m : Int)) = numL m := tl_num m
  rw [et]
  exact numL_free h
/-- shown again it is the same, just if no nought is needless -/
theorem num_back {w : PySem.Str} (h : allD w = true) (h6 : w.length ≤ 640) : num (val w) = w ↔ good w = true := by
  obtain ⟨_, ev, _⟩ := allD_val h h6
  rw [ev]
  refine ⟨fun q => ?_, fun q => ?_⟩
  · rw [← q]
    exact num_good _
  · refine ext_tl ?_
    have et : tl (num ((NumText.digitsVal w.cps.toList : Nat) : Int)) = numL (NumText.digitsVal w.cps.toList) := tl_num _
    rw [et]
    unfold allD at h
    simp only [Bool.and_eq_true, decide_eq_true_eq] at h
    refine back _ _ rfl (fun e => ?_) (fun c hc => fg_mem (of_decide_eq_true (List.all_eq_true.mp h.2 c hc))) ?_
    · have : w.length = w.cps.toList.length := by simp [PySem.Str.length]
      rw [this, e] at h
      simp at h
    · unfold good at q
      rw [Bool.or_eq_true] at q
      rcases q with q | q
      · left
        have := of_decide_eq_true q
        injection this with this
        rw [this]
        decide +kernel
      · right
        unfold headOk at q
        cases hl : w.cps.toList with
        | nil => simp
        | cons c l =>
          rw [hl] at q
          simpa using q
/-! paths, shelves -/
def isPath (x : PySem.Str) : Bool := (Txt.split x Sl).all isNm
/-- what stands behind a beginning -/
def behind (h x : PySem.Str) : PySem.Str := ⟨((tl x).drop h.length).toArray⟩
def begins (h x : PySem.Str) : Bool := decide ((tl x).take h.length = tl h)
theorem tl_behind (h x : PySem.Str) : tl (behind h x) = (tl x).drop h.length := rfl
theorem begins_eq {h x : PySem.Str} (b : begins h x = true) : x = h ++ behind h x := by
  refine ext_tl ?_
  rw [tl_append, tl_behind]
  rw [← of_decide_eq_true b]
  exact (List.take_append_drop _ _).symm
/-- the number behind a beginning, as the program reads it -/
def numP (h x : PySem.Str) : Option Int := if begins h x = true ∧ allD (behind h x) = true ∧ (behind h x).length ≤ 19 ∧ good (behind h x) = true then some (val (behind h x)) else none
/-- as the laws read it -/
def numW (h x : PySem.Str) : Option Int := if begins h x = true ∧ allD (behind h x) = true ∧ good (behind h x) = true then some (val (behind h x)) else none
def ShP : PySem.Str := "store/c"
def isShelf (x : PySem.Str) : Bool := (numP ShP x).isSome
theorem nm_c {w : PySem.Str} (h : allD w = true) : isNm ("c" ++ w) = decide (w.length ≤ 19) := by
  unfold isNm
  have e1 : ("c" ++ w : PySem.Str).length = 1 + w.length := by rw [strLen_append]; rfl
  have e2 : tl ("c" ++ w : PySem.Str) = 99 :: tl w := by rw [tl_append]; rfl
  have e3 : headIn ("c" ++ w) = true := by
    unfold headIn
    have : ("c" ++ w : PySem.Str).cps.toList = 99 :: tl w := e2
    rw [this]
    show decide (99 ∈ Lt.cps.toList) = true
    decide +kernel
  have e4 : allIn Nz ("c" ++ w : PySem.Str).cps.toList = true := by
    have : ("c" ++ w : PySem.Str).cps.toList = 99 :: tl w := e2
    rw [this]
    unfold allD at h
    rw [Bool.and_eq_true] at h
    refine List.all_eq_true.mpr fun c hc => ?_
    rcases List.mem_cons.mp hc with e | hc
    · rw [e]; decide +kernel
    · have := fg_mem (of_decide_eq_true (List.all_eq_true.mp h.2 c hc))
      have en : Nz.cps.toList = tl Lt ++ [48, 49, 50, 51, 52, 53, 54, 55, 56, 57, 45] := by decide +kernel
      rw [en]
      refine decide_eq_true (List.mem_append_right _ ?_)
      simp only [List.mem_cons, List.not_mem_nil, or_false]
      omega
  rw [e1, e3, e4, decide_eq_true (show 1 ≤ 1 + w.length by omega)]
  by_cases h19 : w.length ≤ 19
  · rw [decide_eq_true h19, decide_eq_true (show 1 + w.length ≤ 20 by omega)]; rfl
  · rw [decide_eq_false h19, decide_eq_false (show ¬ 1 + w.length ≤ 20 by omega)]; rfl
theorem digit_free {w : PySem.Str} (h : allD w = true) {s : Nat} (hs : s < 48 ∨ 57 < s) : s ∉ tl w := fun m => by
  unfold allD at h
  rw [Bool.and_eq_true] at h
  have := fg_mem (of_decide_eq_true (List.all_eq_true.mp h.2 s m))
  omega
/-- a shelf, read by the law: a path with a number behind -/
theorem shelf_path {x : PySem.Str} (b : begins ShP x = true) (h : allD (behind ShP x) = true) : isPath x = decide ((behind ShP x).length ≤ 19) := by
  have e : Txt.split x Sl = [("store" : PySem.Str), ("c" : PySem.Str) ++ behind ShP x] := by
    refine (split_iff tl_sl (by decide +kernel) (by simp) ?_).mpr ?_
    · intro p hp
      simp only [List.mem_cons, List.not_mem_nil, or_false] at hp
      rcases hp with e | e
      · rw [e]; decide +kernel
      · rw [e, tl_append, List.mem_append]
        exact fun z => z.elim (by decide +kernel) (digit_free h (.inl (by decide)))
    · have e2 := begins_eq b
      generalize behind ShP x = w at e2
      rw [e2]
      refine ext_tl ?_
      rw [join_eq, tl_join, tl_append]
      show _ = tl "store" ++ (tl Sl ++ tl ("c" ++ w))
      rw [tl_append]
      rfl
  unfold isPath
  rw [e]
  show (isNm "store" && (isNm ("c" ++ behind ShP x) && true)) = _
  rw [nm_c h, show isNm "store" = true from by decide +kernel, Bool.true_and, Bool.and_true]
theorem shelf_law (x : PySem.Str) : ((numW ShP x).isSome && isPath x) = isShelf x := by
  unfold isShelf numW numP
  by_cases b : begins ShP x = true
  · by_cases h : allD (behind ShP x) = true
    · rw [shelf_path b h]
      by_cases g : good (behind ShP x) = true
      · rw [if_pos ⟨b, h, g⟩]
        by_cases l : (behind ShP x).length ≤ 19
        · rw [if_pos ⟨b, h, l, g⟩, decide_eq_true l]; rfl
        · rw [if_neg (fun z => l z.2.2.1), decide_eq_false l]; rfl
      · rw [if_neg (fun z => g z.2.2), if_neg (fun z => g z.2.2.2)]; rfl
    · rw [if_neg (fun z => h z.2.1), if_neg (fun z => h z.2.1)]; rfl
  · rw [if_neg (fun z => b z.1), if_neg (fun z => b z.1)]; rfl
end DK
/-! Lists of texts held against one another; signs of a text; beginnings of texts. -/
namespace RX
open PySem PySem.Spec PyProof.Rows L2 TL
section
variable {X : Cx}
/-- a list != [] -/
theorem op_neL0 (hu : X.A.units < cLine) : OpR X (compareOp .NotEq) (fun x y H Q => ∃ (a b : Addr) (xs : List V), x = .ref a ∧ y = .ref b ∧ H a = some (.lst xs) ∧ H b = some (.lst []) ∧ Q (.bl (!xs.isEmpty)) H) := by
  intro pins s σ H x y v u Q I rx ry h
  obtain ⟨a, b, xs, rfl, rfl, ha, hb, q⟩ := h
  cases (show v = Value.ref a from rx)
  cases (show u = Value.ref b from ry)
  obtain ⟨i1, r1, p1, _⟩ := I.list (.inl (.inl ha))
  obtain ⟨i2, r2, p2, _⟩ := I.list (.inl (.inl hb))
  cases r2
  cases r1 with
  | nil => exact SeqAt.RcNeAt.lists (e := fun _ => true) p1.isList p2.isList rfl hu (fun j _ h2 => absurd h2 (Nat.not_lt_zero j)) _ _ _ _ ⟨.bl false, H, I, rfl, q⟩
  | cons c d => exact SeqAt.RcNeAt.lists_lengths p1.isList p2.isList (by simp) hu _ _ _ _ ⟨.bl true, H, I, rfl, q⟩
/-- a tuple != () -/
theorem op_neT0 (hu : X.A.units < cLine) : OpR X (compareOp .NotEq) (fun x y H Q => ∃ (a b : Addr) (xs : List V), x = .ref a ∧ y = .ref b ∧ SqT X.K H a xs ∧ SqT X.K H b [] ∧ Q (.bl (!xs.isEmpty)) H) := by
  intro pins s σ H x y v u Q I rx ry h
  obtain ⟨a, b, xs, rfl, rfl, ha, hb, q⟩ := h
  cases (show v = Value.ref a from rx)
  cases (show u = Value.ref b from ry)
  obtain ⟨i1, r1, p1, _⟩ := I.tuple ha
  obtain ⟨i2, r2, p2, _⟩ := I.tuple hb
  cases r2
  refine SeqAt.RcNeAt.tuples (e := fun _ => true) p1 p2 hu (fun j _ h2 => absurd h2 (Nat.not_lt_zero j)) _ _ _ _ ?_
  refine ⟨.bl (!xs.isEmpty), H, I, ?_, q⟩
  cases r1 with
  | nil => rfl
  | cons c d => simp [L2.RelV]
/-- a list == [] -/
theorem op_eqL0 (hu : X.A.units < cLine) : OpR X (compareOp .Eq) (fun x y H Q => ∃ (a b : Addr) (xs : List V), x = .ref a ∧ y = .ref b ∧ H a = some (.lst xs) ∧ H b = some (.lst []) ∧ Q (.bl xs.isEmpty) H) := by
  intro pins s σ H x y v u Q I rx ry h
  obtain ⟨a, b, xs, rfl, rfl, ha, hb, q⟩ := h
  cases (show v = Value.ref a from rx)
  cases (show u = Value.ref b from ry)
  obtain ⟨i1, r1, p1, _⟩ := I.list (.inl (.inl ha))
  obtain ⟨i2, r2, p2, _⟩ := I.list (.inl (.inl hb))
  cases r2
  cases r1 with
  | nil => exact SeqAt.eq_listAt (e := fun _ => true) p1.isList p2.isList rfl hu (fun j _ h2 => absurd h2 (Nat.not_lt_zero j)) ⟨.bl true, H, I, rfl, q⟩
  | cons c d => exact SeqAt.eq_list_lengthsAt p1.isList p2.isList (by simp) hu ⟨.bl false, H, I, rfl, q⟩
/-- a text some times over -/
theorem op_mulS : OpR X (binaryOp .Mult) (fun x y H Q => ∃ (z : PySem.Str) (n : Int), x = .str z ∧ y = .int n ∧ MulOk z n ∧ Q (.str (Txt.mul z n)) H) := by
  intro pins s σ H x y v u Q I rx ry h
  obtain ⟨z, n, rfl, rfl, hm, q⟩ := h
  obtain ⟨t, rfl⟩ := rx
  obtain ⟨t', rfl⟩ := ry
  exact SB.mul hm fun tk k => ⟨.str _, H, I.tok _, ⟨_, rfl⟩, q⟩
end
/-! readings that do not name the place where they are used -/
def rJoin (K : PySem.W.Frag) : V → List V → Hp → VK → Prop := fun x xs H Q => ∃ a p, ∃ ys : List PySem.Str, x = .str a ∧ xs = [.ref p] ∧ (SqL K H p (ys.map V.str) ∨ SqT K H p (ys.map V.str)) ∧ (ys.map (·.length)).sum + ys.length * a.length ≤ 16777216 ∧ Q (.str (Txt.join a ys)) H
theorem mt_joinK {X : Cx} : MtR X "str.join" (rJoin X.K) := mt_join
def rTupOf (K : PySem.W.Frag) : List V → Hp → VK → Prop := fun xs H Q => ∃ p ys, xs = [.ref p] ∧ ((SqL K H p ys ∧ ∀ l, H l = none → Q (.ref l) (upd H l (.tup ys))) ∨ (SqT K H p ys ∧ Q (.ref p) H))
theorem call_tupK {X : Cx} : CallR X (.type "tuple") (rTupOf X.K) := call_tuple_of
def rLen (K : PySem.W.Frag) : List V → Hp → VK → Prop := fun xs H Q => ∃ p ys, xs = [.ref p] ∧ (SqL K H p ys ∨ SqT K H p ys) ∧ Q (.int ys.length) H
theorem call_lenK {X : Cx} : CallR X (.builtin "len") (rLen X.K) := call_len_seq
section
variable {X : Cx} {o e : Expr} {to te : TE} {apos pos : Pos} {K : PySem.W.Frag}
theorem pe_joinK (ho : PE X o to) (he : PE X e te) (hK : X.K = K := by rfl) (hs : starEach [e] X.env = [(false, eval e X.env)] := by rfl) (hbase : attributeBase o "join" X.env (eval o X.env) = eval o X.env := by rfl) (hline : (apos.endLine == pos.line) = true := by rfl) :
    PE X (.Call (.Attribute o "join" apos) [e] [] pos) (tM1 (rJoin K) to te) := by
  subst hK
  exact pe_join ho he hs hbase hline
end
/-- signs that texts may have -/
def OkS (x : PySem.Str) : Prop := ∀ c ∈ tl x, c < 0x110000
theorem OkS.lay {x : PySem.Str} (h : OkS x) : (PyData.str x).canLay0 = true := by
  show x.cps.all (· < 0x110000) = true
  rw [← Array.all_toList, List.all_eq_true]
  exact fun c hc => decide_eq_true (h c hc)
theorem OkS.sg {x : PySem.Str} (h : OkS x) (l : x.length ≤ 1000000) : Sg x := ⟨l, fun k hk => Nat.lt_trans (h k hk) (by decide)⟩
theorem lay_txs : ∀ fs : List PySem.Str, (∀ x ∈ fs, OkS x) → PyData.canLayAll0 (fs.map PyData.str) = true ∧ PyData.depthAll (fs.map PyData.str) = 0
  | [], _ => ⟨rfl, rfl⟩
  | x :: fs, h => by
    obtain ⟨h1, h2⟩ := lay_txs fs fun y hy => h y (List.mem_cons_of_mem _ hy)
    refine ⟨?_, ?_⟩
    · show ((PyData.str x).canLay0 && PyData.canLayAll0 (fs.map PyData.str)) = true
      rw [(h x List.mem_cons_self).lay, h1]; rfl
    · show max 0 (PyData.depthAll (fs.map PyData.str)) = 0
      rw [h2]; rfl
theorem shaped_txs {fs : List PySem.Str} (h : ∀ x ∈ fs, OkS x) : SeqAt.shaped (.list (fs.map PyData.str)) = true := by
  obtain ⟨h1, h2⟩ := lay_txs fs h
  unfold SeqAt.shaped
  have c2 : (PyData.list (fs.map PyData.str)).depth = 1 := by
    show PyData.depthAll (fs.map PyData.str) + 1 = 1
    rw [h2]
  have c1 : (PyData.list (fs.map PyData.str)).canLay0 = true := h1
  rw [c1, c2]
  rfl
theorem eqv_strs : ∀ xs ys : List PySem.Str, PyData.eqvAll (xs.map PyData.str) (ys.map PyData.str) = true ↔ xs = ys
  | [], [] => ⟨fun _ => rfl, fun _ => rfl⟩
  | [], _ :: _ => ⟨fun h => (by cases h), fun h => (by cases h)⟩
  | _ :: _, [] => ⟨fun h => (by cases h), fun h => (by cases h)⟩
  | x :: xs, y :: ys => by
    have e : PyData.eqvAll ((x :: xs).map PyData.str) ((y :: ys).map PyData.str) = ((x == y) && PyData.eqvAll (xs.map PyData.str) (ys.map PyData.str)) := rfl
    rw [e, Bool.and_eq_true, eqv_strs xs ys, beq_iff_eq, List.cons.injEq]
theorem dp_strs {K : PySem.W.Frag} : ∀ fs : List PySem.Str, DpAll K H (fs.map V.str) (fs.map PyData.str)
  | [] => .nil
  | x :: fs => .cons (.str x) (dp_strs fs)
theorem eqv_dec (xs ys : List PySem.Str) : PyData.eqvAll (xs.map PyData.str) (ys.map PyData.str) = decide (xs = ys) := by
  by_cases h : xs = ys
  · rw [decide_eq_true h]; exact (eqv_strs xs ys).mpr h
  · rw [decide_eq_false h]
    cases e : PyData.eqvAll (xs.map PyData.str) (ys.map PyData.str) with
    | false => rfl
    | true => exact absurd ((eqv_strs xs ys).mp e) h
section
variable {X : Cx}
theorem op_eqTs (hu : X.A.units + 64 < cLine) : OpR X (compareOp .Eq) (fun x y H Q => ∃ (a b : Addr) (xs ys : List PySem.Str), x = .ref a ∧ y = .ref b ∧ H a = some (.lst (xs.map V.str)) ∧ H b = some (.lst (ys.map V.str)) ∧ (∀ x ∈ xs, OkS x) ∧ (∀ y ∈ ys, OkS y) ∧ Q (.bl (decide (xs = ys))) H) := by
  intro pins s σ H x y v u Q I rx ry h
  obtain ⟨a, b, xs, ys, rfl, rfl, ha, hb, ox, oy, q⟩ := h
  refine L2.op_eqD hu pins s σ H _ _ v u Q I rx ry ⟨.list (xs.map PyData.str), .list (ys.map PyData.str), .lst (.inl (.inl ha)) (dp_strs xs), .lst (.inl (.inl hb)) (dp_strs ys), shaped_txs ox, shaped_txs oy, ?_⟩
  rw [← eqv_dec] at q
  exact q
theorem op_neTs (hu : X.A.units + 64 < cLine) : OpR X (compareOp .NotEq) (fun x y H Q => ∃ (a b : Addr) (xs ys : List PySem.Str), x = .ref a ∧ y = .ref b ∧ H a = some (.lst (xs.map V.str)) ∧ H b = some (.lst (ys.map V.str)) ∧ (∀ x ∈ xs, OkS x) ∧ (∀ y ∈ ys, OkS y) ∧ Q (.bl (!decide (xs = ys))) H) := by
  intro pins s σ H x y v u Q I rx ry h
  obtain ⟨a, b, xs, ys, rfl, rfl, ha, hb, ox, oy, q⟩ := h
  refine L2.op_neD hu pins s σ H _ _ v u Q I rx ry ⟨.list (xs.map PyData.str), .list (ys.map PyData.str), .lst (.inl (.inl ha)) (dp_strs xs), .lst (.inl (.inl hb)) (dp_strs ys), shaped_txs ox, shaped_txs oy, ?_⟩
  rw [← eqv_dec] at q
  exact q
end
/-- the signs of a text, as values -/
def sgs (x : PySem.Str) : List V := (tl x).map fun c => V.str ⟨#[c]⟩
theorem walk_sgs {z : PySem.Str} : Walk (Its z) z.length (fun _ => True) (YAt (sgs z)) :=
  walk_str.mono (fun _ h => h) fun i H x H' hi _ y => by
    obtain ⟨rfl, c, hc, rfl⟩ := y
    refine ⟨rfl, ?_⟩
    unfold sgs
    rw [List.getElem?_map]
    have : (tl z)[i]? = some c := by show z.cps.toList[i]? = some c; rw [Array.getElem?_toList]; exact hc
    rw [this]
    rfl
theorem sgs_len (z : PySem.Str) : (sgs z).length = z.length := by unfold sgs; rw [List.length_map, len_tl]
theorem pd_eq {xs ys : List V} (h : Paired (fun x y => y = x) xs ys) : ys = xs := by
  induction xs generalizing ys with
  | nil => cases h; rfl
  | cons x xs ih =>
    cases h with
    | cons a b => rw [a, ih b]
/-- what a map of texts has become -/
theorem pd_strs {f : PySem.Str → V} : ∀ {ps : List PySem.Str} {ys : List V}, Paired (fun x y => ∃ w, x = V.str w ∧ y = f w) (ps.map V.str) ys → ys = ps.map f
  | [], _, h => by cases h; rfl
  | p :: ps, _, h => by
    cases h with
    | cons a b =>
      obtain ⟨w, e, rfl⟩ := a
      cases e
      rw [List.map_cons, pd_strs b]
theorem pd_sgs {f : Nat → V} : ∀ {l : List Nat} {ys : List V}, Paired (fun x y => ∃ c, x = V.str ⟨#[c]⟩ ∧ y = f c) (l.map fun c => V.str ⟨#[c]⟩) ys → ys = l.map f
  | [], _, h => by cases h; rfl
  | p :: ps, _, h => by
    cases h with
    | cons a b =>
      obtain ⟨w, e, rfl⟩ := a
      injection e with e
      injection e with e
      injection e with e
      injection e with e
      subst e
      rw [List.map_cons, pd_sgs b]
end RX
namespace DK
open PySem PySem.Spec PyProof.Rows L2 TL RX
/-- a sign that is not among some -/
def notIn (z : PySem.Str) : V → Bool | .str y => !allIn z y.cps.toList | _ => false
theorem notIn_one (z : PySem.Str) (c : Nat) : notIn z (V.str ⟨#[c]⟩) = !decide (c ∈ z.cps.toList) := by
  show (!([c].all fun c => decide (c ∈ z.cps.toList))) = _
  rw [List.all_cons, List.all_nil, Bool.and_true]
/-- a text that is no NAME -/
def noNm : V → Bool | .str y => !isNm y | _ => false
theorem no_nms (ps : List PySem.Str) : ((ps.map V.str).filter noNm).isEmpty = ps.all isNm := by
  induction ps with
  | nil => rfl
  | cons p ps ih =>
    rw [List.map_cons, List.filter_cons, List.all_cons]
    have e : noNm (V.str p) = !isNm p := rfl
    rw [e]
    cases h : isNm p with
    | true => exact ih
    | false => rfl
theorem not_none (z x : PySem.Str) : ((sgs x).filter (notIn z)).isEmpty = allIn z x.cps.toList := by
  have key : ∀ l : List Nat, ((l.map fun c => V.str ⟨#[c]⟩).filter (notIn z)).isEmpty = allIn z l := by
    intro l
    induction l with
    | nil => rfl
    | cons c l ih =>
      rw [List.map_cons, List.filter_cons]
      have e : notIn z (V.str ⟨#[c]⟩) = !decide (c ∈ z.cps.toList) := by
        show (!([c].all fun c => decide (c ∈ z.cps.toList))) = _
        rw [List.all_cons, List.all_nil, Bool.and_true]
      have e2 : allIn z (c :: l) = (decide (c ∈ z.cps.toList) && allIn z l) := by unfold allIn; rw [List.all_cons]
      rw [e, e2]
      by_cases h : c ∈ z.cps.toList
      · rw [decide_eq_true h, Bool.true_and]; exact ih
      · rw [decide_eq_false h]; rfl
  exact key _
theorem head_ok {w : PySem.Str} {c : Nat} (h : atI w.cps.toList 0 = some c) : headOk w = !decide (c = 48) := by
  unfold headOk
  cases e : w.cps.toList with
  | nil => rw [e] at h; cases h
  | cons d l =>
    rw [e] at h
    have : atI (d :: l) 0 = some d := atI_nat (j := 0) rfl
    rw [this] at h
    cases h
    rfl
theorem one_sign {c d : Nat} (h : V.str ⟨#[c]⟩ = V.str ⟨#[d]⟩) : c = d := by
  injection h with h
  injection h with h
  injection h with h
  injection h
theorem starts_eq (x h : PySem.Str) : Txt.startswith x h = begins h x := by
  unfold Txt.startswith begins
  rw [StrLaws.subAt_eq, List.drop_zero]
  by_cases e : (tl x).take h.length = tl h
  · have l : h.length ≤ x.length := by
      have := congrArg List.length e
      rw [List.length_take, ← len_tl, ← len_tl] at this
      omega
    rw [decide_eq_true e, decide_eq_true (show 0 + h.length ≤ x.length by omega), Bool.true_and]
    exact beq_iff_eq.mpr e
  · rw [decide_eq_false e]
    have : (List.take h.length x.cps.toList == h.cps.toList) = false := by
      rw [Bool.eq_false_iff]
      exact fun z => e (beq_iff_eq.mp z)
    rw [this, Bool.and_false]
theorem remp_eq (x h : PySem.Str) : Txt.removeprefix x h = if begins h x = true then behind h x else x := by
  unfold Txt.removeprefix
  have e0 : Builtin.Str.subAt x h 0 = begins h x := by
    rw [StrLaws.subAt_eq, List.drop_zero]
    unfold begins
    by_cases e : (tl x).take h.length = tl h
    · rw [decide_eq_true e]; exact beq_iff_eq.mpr e
    · rw [decide_eq_false e, Bool.eq_false_iff]; exact fun z => e (beq_iff_eq.mp z)
  rw [e0]
  by_cases b : begins h x = true
  · rw [if_pos b, if_pos b]
    show (if x.length - h.length == x.length then x else Builtin.Str.strSub x h.length x.length) = _
    have e2 := begins_eq b
    have el : x.length = h.length + (behind h x).length := by rw [← strLen_append, ← e2]
    by_cases z : h.length = 0
    · have : h = "" := str_nil.mpr (List.length_eq_zero_iff.mp (by rw [← len_tl]; exact z))
      rw [if_pos (by rw [z]; simp)]
      refine ext_tl ?_
      rw [tl_behind, z, List.drop_zero]
    · rw [if_neg (by simp; omega)]
      refine ext_tl ?_
      rw [tl_strSub_end, tl_behind]
  · rw [if_neg b, if_neg b]
    rfl
theorem cut_behind (x h : PySem.Str) : cutS x (some (h.length : Nat)) none = behind h x := by
  refine ext_tl ?_
  show ((x.cps.toList.drop (HT.sIx x.length 0 (some ((h.length : Nat) : Int)))).take (HT.sIx x.length x.length none - HT.sIx x.length 0 (some ((h.length : Nat) : Int)))) = _
  rw [HT.sIx_nat, HT.sIx_none, tl_behind]
  have l : x.cps.toList.length = x.length := (len_tl x).symm
  by_cases e : h.length ≤ x.length
  · rw [Nat.min_eq_left e, List.take_of_length_le (by rw [List.length_drop, l]; exact Nat.le_refl _)]
  · rw [Nat.min_eq_right (by omega), Nat.sub_self, List.take_zero, List.drop_eq_nil_of_le (by rw [← len_tl]; omega)]
theorem tl_take (x : PySem.Str) (n : Nat) : tl (cutS x none (some (n : Nat))) = (tl x).take n := by
  show ((x.cps.toList.drop 0).take (HT.sIx x.length x.length (some ((n : Nat) : Int)) - 0)) = _
  rw [HT.sIx_nat, List.drop_zero, Nat.sub_zero]
  have l : x.cps.toList.length = x.length := (len_tl x).symm
  exact List.take_eq_take_iff.mpr (by rw [l]; show min (min n x.length) x.length = min n (tl x).length; rw [← len_tl]; omega)
theorem cut_begins (x h : PySem.Str) : decide (V.str (cutS x none (some (h.length : Nat))) = V.str h) = begins h x := by
  unfold begins
  by_cases e : (tl x).take h.length = tl h
  · rw [decide_eq_true e, decide_eq_true]
    rw [ext_tl ((tl_take x h.length).trans e)]
  · rw [decide_eq_false e, decide_eq_false]
    intro z
    injection z with z
    exact e (by rw [← tl_take, z])
end DK
/-! Operators by data. -/
namespace VL
open PySem PySem.Spec PyProof.Rows L2 RX
/-! data without dicts, as the library compares them -/
mutual
def py : Dt → PyData
  | .non => .none
  | .bl b => .bool b
  | .int i => .int i
  | .str x => .str x
  | .lst ds => .list (pyAll ds)
  | .tup ds => .tuple (pyAll ds)
  | .fup ds => .tuple (pyAll ds)
  | .dic _ _ => .dict []
def pyAll : List Dt → List PyData
  | [] => []
  | d :: ds => py d :: pyAll ds
end
/-- data that may be compared: no dicts, texts of true signs, not deep -/
def shp (d : Dt) : Bool := SeqAt.shaped (py d)
section
variable {K : PySem.W.Frag} {g : Geo} {H : Hp}
mutual
theorem Rp.dp : ∀ (d : Dt) (v : V), Rp g H v d → (py d).canLay0 = true → Dp K H v (py d)
  | .non, v, h, _ => by cases h; exact .non
  | .bl c, v, h, _ => by cases h; exact .bl c
  | .int i, v, h, _ => by cases h; exact .int i
  | .str x, v, h, _ => by cases h; exact .str x
  | .lst ds, v, h, s => by
    cases h with
    | lst n h t => exact .lst (.inl (.inl h)) (RpAll.dp ds _ t (by simpa [py, PyData.canLay0] using s))
  | .tup ds, v, h, s => by
    cases h with
    | tup n h t => exact .tup (.inl (.inl h)) (RpAll.dp ds _ t (by simpa [py, PyData.canLay0] using s))
  | .fup ds, v, h, s => by
    cases h with
    | fup n h _ t => exact .tup (.inl (.inr ⟨_, h⟩)) (RpAll.dp ds _ t (by simpa [py, PyData.canLay0] using s))
  | .dic ks ds, v, h, s => by simp [py, PyData.canLay0] at s
theorem RpAll.dp : ∀ (ds : List Dt) (vs : List V), RpAll g H vs ds → PyData.canLayAll0 (pyAll ds) = true → DpAll K H vs (pyAll ds)
  | [], vs, h, _ => by cases h; exact .nil
  | d :: ds, vs, h, s => by
    cases h with
    | cons h t =>
      simp only [pyAll, PyData.canLayAll0, Bool.and_eq_true] at s
      exact .cons (Rp.dp d _ h s.1) (RpAll.dp ds _ t s.2)
end
theorem Rpc.dp {d : Dt} {v : V} (h : Rpc g H v d) (s : shp d = true) : Dp K H v (py d) := by
  have s' := SeqAt.canLay_of_shaped s
  rcases h with h | ⟨a, e, na, h⟩
  · exact Rp.dp d v h s'
  · subst e
    cases d with
    | lst ds => obtain ⟨xs, e, k⟩ := h; exact .lst (.inl (.inl e)) (RpAll.dp ds _ k (by simpa [py, PyData.canLay0] using s'))
    | dic ks ds => simp [py, PyData.canLay0] at s'
    | _ => exact h.elim
end
section
variable {X : Cx}
/-! ### + - * // % -/
def addD : D2
  | .int i, .int j, M => M (.int (i + j))
  | .str x, .str y, M => x.length + y.length ≤ sizeLine ∧ M (.str (x ++ y))
  | .tup xs, .tup ys, M => xs.length + ys.length ≤ sizeLine ∧ M (.tup (xs ++ ys))
  | .lst xs, .lst ys, M => xs.length + ys.length ≤ sizeLine ∧ M (.lst (xs ++ ys))
  | _, _, _ => False
def catD : D2
  | .lst xs, .lst ys, M => xs.length + ys.length ≤ sizeLine ∧ M (.lst (xs ++ ys))
  | _, _, _ => False
theorem RpAll.nil_iff {g : Geo} {H : Hp} {vs : List V} {ds : List Dt} (h : RpAll g H vs ds) : vs = [] ↔ ds = [] := by
  cases h <;> simp
theorem new_rp {g : Geo} {H : Hp} {p : Addr} (c : Ctx g H) (np : H p = none) : ¬ g.O p := fun z => by
  obtain ⟨o, e⟩ := c.al p z
  rw [np] at e; cases e
/-- a new list -/
theorem own_new {g : Geo} {H : Hp} {p : Addr} {xs : List V} {ds : List Dt} (c : Ctx g H) (np : H p = none) (h : RpAll g H xs ds) : OwnC (g.and p) (upd H p (.lst xs)) p (.lst ds) := ⟨xs, upd_same, h.and c np⟩
theorem Rpc.rpT {g : Geo} {H : Hp} {v : V} {ds : List Dt} (h : Rpc g H v (.tup ds)) : Rp g H v (.tup ds) := h.elim id fun ⟨_, _, _, z⟩ => z.elim
theorem vopF_cat : VOpF X (binaryOp .Add) catD := by
  intro pins s σ H x y v u Q I rx ry ⟨g, d1, d2, M, c, h1, h2, q, k⟩
  cases d1 <;> cases d2 <;> simp only [catD] at q <;> try exact q.elim
  obtain ⟨a, xs, e1, e2, e3⟩ := h1.lst
  obtain ⟨b, ys, f1, f2, f3⟩ := h2.lst
  exact op_cat pins s σ H x y v u Q I rx ry ⟨a, b, xs, ys, e1, f1, e2, f2, by rw [e3.len, f3.len]; exact q.1, fun p np => k _ _ _ q.2 (.new c np) np (own_new c np (e3.app f3))⟩
theorem vop_add : VOp X (binaryOp .Add) addD := by
  intro pins s σ H x y v u Q I rx ry ⟨g, d1, d2, M, c, h1, h2, q, k⟩
  cases d1 <;> cases d2 <;> simp only [addD] at q <;> try exact q.elim
  · exact op_add pins s σ H x y v u Q I rx ry ⟨_, _, h1.int, h2.int, k _ _ _ q (.refl c) (.int _)⟩
  · exact op_add_str pins s σ H x y v u Q I rx ry ⟨_, _, h1.str, h2.str, q.1, k _ _ _ q.2 (.refl c) (.str _)⟩
  · obtain ⟨a, xs, e1, e2, e3⟩ := h1.lst
    obtain ⟨b, ys, f1, f2, f3⟩ := h2.lst
    exact op_cat pins s σ H x y v u Q I rx ry ⟨a, b, xs, ys, e1, f1, e2, f2, by rw [e3.len, f3.len]; exact q.1, fun p np => k _ _ _ q.2 (.new c np) (OwnC.rp (own_new c np (e3.app f3)) (new_rp c np))⟩
  · have r1 := h1.rpT; have r2 := h2.rpT
    obtain ⟨a, xs, e1, e2, e3⟩ := h1.tup
    obtain ⟨b, ys, f1, f2, f3⟩ := h2.tup
    subst e1; subst f1
    refine op_catA pins s σ H _ _ v u Q I rx ry ⟨a, b, xs, ys, rfl, rfl, .inl (.inl e2), .inl (.inl f2), by rw [e3.len, f3.len]; exact q.1, fun z => ?_, fun _ z => ?_, fun _ _ p np => ?_⟩
    · have z1 := e3.nil_iff.mp z
      subst z1
      exact k _ _ _ q.2 (.refl c) (by rw [List.nil_append]; exact r2)
    · have z1 := f3.nil_iff.mp z
      subst z1
      exact k _ _ _ q.2 (.refl c) (by rw [List.append_nil]; exact r1)
    · exact k _ _ _ q.2 (.new c np) (.tup (new_rp c np) upd_same ((e3.app f3).nxt c (.new c np)))
def subD : D2
  | .int i, .int j, M => M (.int (i - j))
  | _, _, _ => False
theorem vop_sub : VOp X (binaryOp .Sub) subD := by
  intro pins s σ H x y v u Q I rx ry ⟨g, d1, d2, M, c, h1, h2, q, k⟩
  cases d1 <;> cases d2 <;> simp only [subD] at q <;> try exact q.elim
  exact op_sub pins s σ H x y v u Q I rx ry ⟨_, _, h1.int, h2.int, k _ _ _ q (.refl c) (.int _)⟩
def mulD : D2
  | .int i, .int j, M => CMul i j ∧ M (.int (i * j))
  | .str z, .int n, M => MulOk z n ∧ M (.str (Txt.mul z n))
  | .lst xs, .int k, M => (-(2 ^ 63) ≤ k ∧ k < 2 ^ 63) ∧ xs.length * k.toNat ≤ sizeLine ∧ M (.lst (List.replicate k.toNat xs).flatten)
  | _, _, _ => False
def repD : D2
  | .lst xs, .int k, M => (-(2 ^ 63) ≤ k ∧ k < 2 ^ 63) ∧ xs.length * k.toNat ≤ sizeLine ∧ M (.lst (List.replicate k.toNat xs).flatten)
  | _, _, _ => False
theorem rp_rep {g : Geo} {H : Hp} {vs : List V} {ds : List Dt} (h : RpAll g H vs ds) : ∀ n, RpAll g H (List.replicate n vs).flatten (List.replicate n ds).flatten
  | 0 => .nil
  | n + 1 => by rw [List.replicate_succ, List.replicate_succ, List.flatten_cons, List.flatten_cons]; exact h.app (rp_rep h n)
theorem vop_mul : VOp X (binaryOp .Mult) mulD := by
  intro pins s σ H x y v u Q I rx ry ⟨g, d1, d2, M, c, h1, h2, q, k⟩
  cases d1 <;> cases d2 <;> simp only [mulD] at q <;> try exact q.elim
  · exact op_mul pins s σ H x y v u Q I rx ry ⟨_, _, h1.int, h2.int, q.1, k _ _ _ q.2 (.refl c) (.int _)⟩
  · exact RX.op_mulS pins s σ H x y v u Q I rx ry ⟨_, _, h1.str, h2.int, q.1, k _ _ _ q.2 (.refl c) (.str _)⟩
  · obtain ⟨a, xs, e1, e2, e3⟩ := h1.lst
    exact op_rep pins s σ H x y v u Q I rx ry ⟨a, _, xs, e1, h2.int, e2, q.1.1, q.1.2, by rw [e3.len]; exact q.2.1, fun p np => k _ _ _ q.2.2 (.new c np) (OwnC.rp (own_new c np (rp_rep e3 _)) (new_rp c np))⟩
theorem vopF_rep : VOpF X (binaryOp .Mult) repD := by
  intro pins s σ H x y v u Q I rx ry ⟨g, d1, d2, M, c, h1, h2, q, k⟩
  cases d1 <;> cases d2 <;> simp only [repD] at q <;> try exact q.elim
  obtain ⟨a, xs, e1, e2, e3⟩ := h1.lst
  exact op_rep pins s σ H x y v u Q I rx ry ⟨a, _, xs, e1, h2.int, e2, q.1.1, q.1.2, by rw [e3.len]; exact q.2.1, fun p np => k _ _ _ q.2.2 (.new c np) np (own_new c np (rp_rep e3 _))⟩
def fdivD : D2
  | .int i, .int j, M => CDiv i j ∧ M (.int (i / j))
  | _, _, _ => False
theorem vop_fdiv : VOp X (binaryOp .FloorDiv) fdivD := by
  intro pins s σ H x y v u Q I rx ry ⟨g, d1, d2, M, c, h1, h2, q, k⟩
  cases d1 <;> cases d2 <;> simp only [fdivD] at q <;> try exact q.elim
  exact op_fdiv pins s σ H x y v u Q I rx ry ⟨_, _, h1.int, h2.int, q.1, k _ _ _ q.2 (.refl c) (.int _)⟩
def modD : D2
  | .int i, .int j, M => 0 < j ∧ M (.int (i % j))
  | _, _, _ => False
theorem vop_mod : VOp X (binaryOp .Mod) modD := by
  intro pins s σ H x y v u Q I rx ry ⟨g, d1, d2, M, c, h1, h2, q, k⟩
  cases d1 <;> cases d2 <;> simp only [modD] at q <;> try exact q.elim
  exact op_mod pins s σ H x y v u Q I rx ry ⟨_, _, h1.int, h2.int, q.1, k _ _ _ q.2 (.refl c) (.int _)⟩
def powD : D2
  | .int i, .int j, M => CPow i j ∧ M (.int (i ^ j.toNat))
  | _, _, _ => False
theorem vop_pow : VOp X (binaryOp .Pow) powD := by
  intro pins s σ H x y v u Q I rx ry ⟨g, d1, d2, M, c, h1, h2, q, k⟩
  cases d1 <;> cases d2 <;> simp only [powD] at q <;> try exact q.elim
  exact op_pow pins s σ H x y v u Q I rx ry ⟨_, _, h1.int, h2.int, q.1, k _ _ _ q.2 (.refl c) (.int _)⟩
theorem isEmpty_rp {g : Geo} {H : Hp} {vs : List V} {ds : List Dt} (h : RpAll g H vs ds) : vs.isEmpty = ds.isEmpty := by cases h <;> rfl
/-! ### == and != -/
def eqD : D2
  | .str x, .str y, M => M (.bl (decide (x = y)))
  | .int i, .int j, M => M (.bl (decide (i = j)))
  | .bl i, .bl j, M => M (.bl (decide (i = j)))
  | .non, .str _, M => M (.bl false)
  | .str _, .non, M => M (.bl false)
  | .non, .int _, M => M (.bl false)
  | .int _, .non, M => M (.bl false)
  | .str _, .int _, M => M (.bl false)
  | .int _, .str _, M => M (.bl false)
  | .lst xs, .lst [], M => M (.bl xs.isEmpty)
  | .tup xs, .tup [], M => M (.bl xs.isEmpty)
  | d, e, M => shp d = true ∧ shp e = true ∧ M (.bl (PyData.eqv (py d) (py e)))
def neD : D2
  | .str x, .str y, M => M (.bl (!decide (x = y)))
  | .int i, .int j, M => M (.bl (!decide (i = j)))
  | .bl i, .bl j, M => M (.bl (!decide (i = j)))
  | .non, .str _, M => M (.bl true)
  | .str _, .non, M => M (.bl true)
  | .non, .int _, M => M (.bl true)
  | .int _, .non, M => M (.bl true)
  | .str _, .int _, M => M (.bl true)
  | .int _, .str _, M => M (.bl true)
  | .lst xs, .lst [], M => M (.bl (!xs.isEmpty))
  | .tup xs, .tup [], M => M (.bl (!xs.isEmpty))
  | d, e, M => shp d = true ∧ shp e = true ∧ M (.bl (!PyData.eqv (py d) (py e)))
theorem vop_eq (hu : X.A.units + 64 < cLine) : VOp X (compareOp .Eq) eqD := by
  intro pins s σ H x y v u Q I rx ry ⟨g, d1, d2, M, c, h1, h2, q, k⟩
  have gen : (shp d1 = true ∧ shp d2 = true ∧ M (.bl (PyData.eqv (py d1) (py d2)))) → wpAny (model X.prog X.w) X.A (compareOp .Eq v u) (EP X pins σ Q) X.xe s := fun ⟨s1, s2, m⟩ =>
    op_eqD hu pins s σ H x y v u Q I rx ry ⟨_, _, h1.dp s1, h2.dp s2, s1, s2, k _ _ _ m (.refl c) (.bl _)⟩
  unfold eqD at q
  split at q
  · have e1 := h1.str; have e2 := h2.str; subst e1; subst e2
    exact op_eq pins s σ H _ _ v u Q I rx ry ⟨rfl, k _ _ _ (by simpa using q) (.refl c) (.bl _)⟩
  · have e1 := h1.int; have e2 := h2.int; subst e1; subst e2
    exact op_eq pins s σ H _ _ v u Q I rx ry ⟨rfl, k _ _ _ (by simpa using q) (.refl c) (.bl _)⟩
  · have e1 := h1.bl; have e2 := h2.bl; subst e1; subst e2
    exact op_eq pins s σ H _ _ v u Q I rx ry ⟨rfl, k _ _ _ (by simpa using q) (.refl c) (.bl _)⟩
  · have e1 := h1.non; have e2 := h2.str; subst e1; subst e2
    exact op_eq pins s σ H _ _ v u Q I rx ry ⟨rfl, k _ _ _ q (.refl c) (.bl _)⟩
  · have e1 := h1.str; have e2 := h2.non; subst e1; subst e2
    exact op_eq pins s σ H _ _ v u Q I rx ry ⟨rfl, k _ _ _ q (.refl c) (.bl _)⟩
  · have e1 := h1.non; have e2 := h2.int; subst e1; subst e2
    exact op_eq pins s σ H _ _ v u Q I rx ry ⟨rfl, k _ _ _ q (.refl c) (.bl _)⟩
  · have e1 := h1.int; have e2 := h2.non; subst e1; subst e2
    exact op_eq pins s σ H _ _ v u Q I rx ry ⟨rfl, k _ _ _ q (.refl c) (.bl _)⟩
  · have e1 := h1.str; have e2 := h2.int; subst e1; subst e2
    exact op_eq pins s σ H _ _ v u Q I rx ry ⟨rfl, k _ _ _ q (.refl c) (.bl _)⟩
  · have e1 := h1.int; have e2 := h2.str; subst e1; subst e2
    exact op_eq pins s σ H _ _ v u Q I rx ry ⟨rfl, k _ _ _ q (.refl c) (.bl _)⟩
  · obtain ⟨a, xs, e1, e2, e3⟩ := h1.lst
    obtain ⟨b, ys, f1, f2, f3⟩ := h2.lst
    cases f3
    exact RX.op_eqL0 (by omega) pins s σ H x y v u Q I rx ry ⟨a, b, xs, e1, f1, e2, f2, by rw [isEmpty_rp e3]; exact k _ _ _ q (.refl c) (.bl _)⟩
  · obtain ⟨a, xs, e1, e2, e3⟩ := h1.tup
    obtain ⟨b, ys, f1, f2, f3⟩ := h2.tup
    cases f3
    exact RX.op_eqT0 (by omega) pins s σ H x y v u Q I rx ry ⟨a, b, xs, e1, f1, .inl (.inl e2), .inl (.inl f2), by rw [isEmpty_rp e3]; exact k _ _ _ q (.refl c) (.bl _)⟩
  · exact gen q
theorem vop_ne (hu : X.A.units + 64 < cLine) : VOp X (compareOp .NotEq) neD := by
  intro pins s σ H x y v u Q I rx ry ⟨g, d1, d2, M, c, h1, h2, q, k⟩
  have gen : (shp d1 = true ∧ shp d2 = true ∧ M (.bl (!PyData.eqv (py d1) (py d2)))) → wpAny (model X.prog X.w) X.A (compareOp .NotEq v u) (EP X pins σ Q) X.xe s := fun ⟨s1, s2, m⟩ =>
    op_neD hu pins s σ H x y v u Q I rx ry ⟨_, _, h1.dp s1, h2.dp s2, s1, s2, k _ _ _ m (.refl c) (.bl _)⟩
  unfold neD at q
  split at q
  · have e1 := h1.str; have e2 := h2.str; subst e1; subst e2
    exact op_ne pins s σ H _ _ v u Q I rx ry ⟨rfl, k _ _ _ (by simpa using q) (.refl c) (.bl _)⟩
  · have e1 := h1.int; have e2 := h2.int; subst e1; subst e2
    exact op_ne pins s σ H _ _ v u Q I rx ry ⟨rfl, k _ _ _ (by simpa using q) (.refl c) (.bl _)⟩
  · have e1 := h1.bl; have e2 := h2.bl; subst e1; subst e2
    exact op_ne pins s σ H _ _ v u Q I rx ry ⟨rfl, k _ _ _ (by simpa using q) (.refl c) (.bl _)⟩
  · have e1 := h1.non; have e2 := h2.str; subst e1; subst e2
    exact op_ne pins s σ H _ _ v u Q I rx ry ⟨rfl, k _ _ _ q (.refl c) (.bl _)⟩
  · have e1 := h1.str; have e2 := h2.non; subst e1; subst e2
    exact op_ne pins s σ H _ _ v u Q I rx ry ⟨rfl, k _ _ _ q (.refl c) (.bl _)⟩
  · have e1 := h1.non; have e2 := h2.int; subst e1; subst e2
    exact op_ne pins s σ H _ _ v u Q I rx ry ⟨rfl, k _ _ _ q (.refl c) (.bl _)⟩
  · have e1 := h1.int; have e2 := h2.non; subst e1; subst e2
    exact op_ne pins s σ H _ _ v u Q I rx ry ⟨rfl, k _ _ _ q (.refl c) (.bl _)⟩
  · have e1 := h1.str; have e2 := h2.int; subst e1; subst e2
    exact op_ne pins s σ H _ _ v u Q I rx ry ⟨rfl, k _ _ _ q (.refl c) (.bl _)⟩
  · have e1 := h1.int; have e2 := h2.str; subst e1; subst e2
    exact op_ne pins s σ H _ _ v u Q I rx ry ⟨rfl, k _ _ _ q (.refl c) (.bl _)⟩
  · obtain ⟨a, xs, e1, e2, e3⟩ := h1.lst
    obtain ⟨b, ys, f1, f2, f3⟩ := h2.lst
    cases f3
    exact RX.op_neL0 (by omega) pins s σ H x y v u Q I rx ry ⟨a, b, xs, e1, f1, e2, f2, by rw [isEmpty_rp e3]; exact k _ _ _ q (.refl c) (.bl _)⟩
  · obtain ⟨a, xs, e1, e2, e3⟩ := h1.tup
    obtain ⟨b, ys, f1, f2, f3⟩ := h2.tup
    cases f3
    exact RX.op_neT0 (by omega) pins s σ H x y v u Q I rx ry ⟨a, b, xs, e1, f1, .inl (.inl e2), .inl (.inl f2), by rw [isEmpty_rp e3]; exact k _ _ _ q (.refl c) (.bl _)⟩
  · exact gen q
/-! ### < <= > >= of ints and texts -/
def ltD : D2
  | .int i, .int j, M => M (.bl (decide (i < j)))
  | .str x, .str y, M => M (.bl (decide (x.cps.toList < y.cps.toList)))
  | _, _, _ => False
def leD : D2
  | .int i, .int j, M => M (.bl (decide (i ≤ j)))
  | _, _, _ => False
def gtD : D2
  | .int i, .int j, M => M (.bl (decide (j < i)))
  | _, _, _ => False
def geD : D2
  | .int i, .int j, M => M (.bl (decide (j ≤ i)))
  | _, _, _ => False
theorem vop_lt : VOp X (compareOp .Lt) ltD := by
  intro pins s σ H x y v u Q I rx ry ⟨g, d1, d2, M, c, h1, h2, q, k⟩
  cases d1 <;> cases d2 <;> simp only [ltD] at q <;> try exact q.elim
  · exact op_lt pins s σ H x y v u Q I rx ry ⟨_, _, h1.int, h2.int, k _ _ _ q (.refl c) (.bl _)⟩
  · exact op_lt_str pins s σ H x y v u Q I rx ry ⟨_, _, h1.str, h2.str, k _ _ _ q (.refl c) (.bl _)⟩
theorem vop_le : VOp X (compareOp .LtE) leD := by
  intro pins s σ H x y v u Q I rx ry ⟨g, d1, d2, M, c, h1, h2, q, k⟩
  cases d1 <;> cases d2 <;> simp only [leD] at q <;> try exact q.elim
  exact op_le pins s σ H x y v u Q I rx ry ⟨_, _, h1.int, h2.int, k _ _ _ q (.refl c) (.bl _)⟩
theorem vop_gt : VOp X (compareOp .Gt) gtD := by
  intro pins s σ H x y v u Q I rx ry ⟨g, d1, d2, M, c, h1, h2, q, k⟩
  cases d1 <;> cases d2 <;> simp only [gtD] at q <;> try exact q.elim
  exact op_gt pins s σ H x y v u Q I rx ry ⟨_, _, h1.int, h2.int, k _ _ _ q (.refl c) (.bl _)⟩
theorem vop_ge : VOp X (compareOp .GtE) geD := by
  intro pins s σ H x y v u Q I rx ry ⟨g, d1, d2, M, c, h1, h2, q, k⟩
  cases d1 <;> cases d2 <;> simp only [geD] at q <;> try exact q.elim
  exact op_ge pins s σ H x y v u Q I rx ry ⟨_, _, h1.int, h2.int, k _ _ _ q (.refl c) (.bl _)⟩
/-! ### is None -/
def isNon : Dt → Bool
  | .non => true
  | _ => false
def isD : D2 := fun d e M => e = .non ∧ M (.bl (isNon d))
def notD : D2 := fun d e M => e = .non ∧ M (.bl (!isNon d))
theorem Rpc.nonB {g : Geo} {H : Hp} {v : V} {d : Dt} (h : Rpc g H v d) : decide (v = .non) = isNon d := by
  rcases h with h | ⟨a, e, na, h⟩
  · cases h <;> rfl
  · subst e
    cases d <;> first | rfl | exact h.elim
theorem vop_is : VOp X (compareOp .Is) isD := by
  intro pins s σ H x y v u Q I rx ry ⟨g, d1, d2, M, c, h1, h2, ⟨e, q⟩, k⟩
  subst e
  exact op_isN pins s σ H x y v u Q I rx ry ⟨h2.non, by rw [h1.nonB]; exact k _ _ _ q (.refl c) (.bl _)⟩
theorem vop_isnot : VOp X (compareOp .IsNot) notD := by
  intro pins s σ H x y v u Q I rx ry ⟨g, d1, d2, M, c, h1, h2, ⟨e, q⟩, k⟩
  subst e
  exact op_notN pins s σ H x y v u Q I rx ry ⟨h2.non, by rw [h1.nonB]; exact k _ _ _ q (.refl c) (.bl _)⟩
/-! ### in -/
/-- the data at a key -/
def lookD : List PySem.Str → List Dt → PySem.Str → Option Dt
  | k :: ks, d :: ds, x => if k = x then some d else lookD ks ds x
  | _, _, _ => none
theorem look_mem {ks : List PySem.Str} {ds : List Dt} {x : PySem.Str} (l : ks.length = ds.length) : (lookD ks ds x).isSome = decide (x ∈ ks) := by
  induction ks generalizing ds with
  | nil => simp [lookD]
  | cons k ks ih =>
    cases ds with
    | nil => simp at l
    | cons d ds =>
      simp only [lookD]
      by_cases e : k = x
      · rw [if_pos e]; simp [e]
      · rw [if_neg e, ih (by simpa using l)]
        have : x ≠ k := fun z => e z.symm
        simp [this]
theorem look_rel {g : Geo} {H : Hp} {x : PySem.Str} : ∀ (kv : List (PySem.Str × V)) (ds : List Dt), RpAll g H (kv.map (·.2)) ds →
    match valV kv x, lookD (kv.map (·.1)) ds x with
    | some v, some d => Rp g H v d
    | none, none => True
    | _, _ => False
  | [], ds, h => by cases h; simp [valV, lookD]
  | p :: kv, ds, h => by
    cases h with
    | @cons _ _ d ds a t =>
      by_cases e : p.1 = x
      · rw [valV_pos e]
        simp only [List.map_cons, lookD, if_pos e]
        exact a
      · rw [valV_neg e]
        simp only [List.map_cons, lookD, if_neg e]
        exact look_rel kv ds t
theorem look_some {g : Geo} {H : Hp} {x : PySem.Str} {kv : List (PySem.Str × V)} {ds : List Dt} {d : Dt} (h : RpAll g H (kv.map (·.2)) ds) (e : lookD (kv.map (·.1)) ds x = some d) : ∃ v, valV kv x = some v ∧ Rp g H v d := by
  have := look_rel (x := x) kv ds h
  rw [e] at this
  cases ev : valV kv x with
  | none => rw [ev] at this; exact this.elim
  | some v => rw [ev] at this; exact ⟨v, rfl, this⟩
theorem look_none {g : Geo} {H : Hp} {x : PySem.Str} {kv : List (PySem.Str × V)} {ds : List Dt} (h : RpAll g H (kv.map (·.2)) ds) (e : lookD (kv.map (·.1)) ds x = none) : valV kv x = none := by
  have := look_rel (x := x) kv ds h
  rw [e] at this
  cases ev : valV kv x with
  | none => rfl
  | some v => rw [ev] at this; exact this.elim
theorem val_isSome {g : Geo} {H : Hp} {x : PySem.Str} {kv : List (PySem.Str × V)} {ds : List Dt} (h : RpAll g H (kv.map (·.2)) ds) : (valV (kk kv) (Sum.inr x)).isSome = decide (x ∈ kv.map (·.1)) := by
  rw [val_kk, ← look_mem (ds := ds) (by rw [← h.len, List.length_map, List.length_map])]
  cases e : lookD (kv.map (·.1)) ds x with
  | none => rw [look_none h e]; rfl
  | some d => obtain ⟨v, ev, _⟩ := look_some h e; rw [ev]; rfl
theorem dget_k {H : Hp} {a : Addr} {kv : List (PySem.Str × V)} {x : PySem.Str} (h : Rd H a (.dK (kk kv))) : DGet H a (.str x) (valV (kk kv) (Sum.inr x)) := .inl ⟨_, Sum.inr x, h, rfl, rfl⟩
def inD : D2
  | .str x, .dic ks _, M => M (.bl (decide (x ∈ ks)))
  | .str x, .str y, M => M (.bl (!(Builtin.Str.occurrences y x 0 y.length 1).isEmpty))
  | d, .lst ds, M => shp d = true ∧ shp (.lst ds) = true ∧ M (.bl ((pyAll ds).any fun z => PyData.eqv z (py d)))
  | d, .tup ds, M => shp d = true ∧ shp (.tup ds) = true ∧ M (.bl ((pyAll ds).any fun z => PyData.eqv z (py d)))
  | _, _, _ => False
def notInD : D2
  | .str x, .dic ks _, M => M (.bl (!decide (x ∈ ks)))
  | .str x, .str y, M => M (.bl (!(!(Builtin.Str.occurrences y x 0 y.length 1).isEmpty)))
  | d, .lst ds, M => shp d = true ∧ shp (.lst ds) = true ∧ M (.bl (!(pyAll ds).any fun z => PyData.eqv z (py d)))
  | d, .tup ds, M => shp d = true ∧ shp (.tup ds) = true ∧ M (.bl (!(pyAll ds).any fun z => PyData.eqv z (py d)))
  | _, _, _ => False
theorem op_inTD (hu : X.A.units + 65 < cLine) : OpR X (compareOp .In) (fun x y H Q => ∃ d ds, Dp X.K H x d ∧ Dp X.K H y (.tuple ds) ∧ SeqAt.shaped d = true ∧ SeqAt.shaped (.tuple ds) = true ∧ Q (.bl (ds.any fun z => PyData.eqv z d)) H) := by
  intro pins s σ H x y v u Q I rx ry h
  obtain ⟨d, ds, hd, he, sd, se, q⟩ := h
  obtain ⟨as, r1⟩ := Dp.reads I d x v hd rx
  obtain ⟨bs, r2⟩ := Dp.reads I (.tuple ds) y u he ry
  exact SeqAt.in_tuple_reads r2 r1 (SeqAt.canLay_of_shaped se) (SeqAt.canLay_of_shaped sd) (room_in_shaped sd hu) ⟨.bl _, H, I, rfl, q⟩
theorem op_notInTD (hu : X.A.units + 65 < cLine) : OpR X (compareOp .NotIn) (fun x y H Q => ∃ d ds, Dp X.K H x d ∧ Dp X.K H y (.tuple ds) ∧ SeqAt.shaped d = true ∧ SeqAt.shaped (.tuple ds) = true ∧ Q (.bl (!ds.any fun z => PyData.eqv z d)) H) := by
  intro pins s σ H x y v u Q I rx ry h
  obtain ⟨d, ds, hd, he, sd, se, q⟩ := h
  obtain ⟨as, r1⟩ := Dp.reads I d x v hd rx
  obtain ⟨bs, r2⟩ := Dp.reads I (.tuple ds) y u he ry
  exact SeqAt.notIn_tuple_reads r2 r1 (SeqAt.canLay_of_shaped se) (SeqAt.canLay_of_shaped sd) (room_in_shaped sd hu) ⟨.bl _, H, I, rfl, q⟩
theorem vop_in (hu : X.A.units + 65 < cLine) : VOp X (compareOp .In) inD := by
  intro pins s σ H x y v u Q I rx ry ⟨g, d1, d2, M, c, h1, h2, q, k⟩
  unfold inD at q
  split at q
  · have e1 := h1.str; subst e1
    obtain ⟨a, kv, e, ha, nd, ek, r⟩ := h2.dic
    subst e
    obtain rfl : u = Value.ref a := ry
    refine d_in (by omega) I (dget_k ha) rx fun s3 I3 => ⟨.bl _, H, I3, rfl, ?_⟩
    rw [val_isSome r, ek]
    exact k _ _ _ q (.refl c) (.bl _)
  · exact op_in_str pins s σ H x y v u Q I rx ry ⟨_, _, h1.str, h2.str, k _ _ _ q (.refl c) (.bl _)⟩
  · exact op_inD hu pins s σ H x y v u Q I rx ry ⟨_, _, h1.dp q.1, by have := h2.dp (K := X.K) q.2.1; simpa [py] using this, q.1, by have := q.2.1; simpa [shp, py] using this, k _ _ _ q.2.2 (.refl c) (.bl _)⟩
  · exact op_inTD hu pins s σ H x y v u Q I rx ry ⟨_, _, h1.dp q.1, by have := h2.dp (K := X.K) q.2.1; simpa [py] using this, q.1, by have := q.2.1; simpa [shp, py] using this, k _ _ _ q.2.2 (.refl c) (.bl _)⟩
  · exact q.elim
theorem vop_notIn (hu : X.A.units + 65 < cLine) : VOp X (compareOp .NotIn) notInD := by
  intro pins s σ H x y v u Q I rx ry ⟨g, d1, d2, M, c, h1, h2, q, k⟩
  unfold notInD at q
  split at q
  · have e1 := h1.str; subst e1
    obtain ⟨a, kv, e, ha, nd, ek, r⟩ := h2.dic
    subst e
    obtain rfl : u = Value.ref a := ry
    refine d_notIn (by omega) I (dget_k ha) rx fun s3 I3 => ⟨.bl _, H, I3, rfl, ?_⟩
    rw [val_isSome r, ek]
    exact k _ _ _ q (.refl c) (.bl _)
  · exact op_notin_str pins s σ H x y v u Q I rx ry ⟨_, _, h1.str, h2.str, k _ _ _ q (.refl c) (.bl _)⟩
  · exact op_notInD hu pins s σ H x y v u Q I rx ry ⟨_, _, h1.dp q.1, by have := h2.dp (K := X.K) q.2.1; simpa [py] using this, q.1, by have := q.2.1; simpa [shp, py] using this, k _ _ _ q.2.2 (.refl c) (.bl _)⟩
  · exact op_notInTD hu pins s σ H x y v u Q I rx ry ⟨_, _, h1.dp q.1, by have := h2.dp (K := X.K) q.2.1; simpa [py] using this, q.1, by have := q.2.1; simpa [shp, py] using this, k _ _ _ q.2.2 (.refl c) (.bl _)⟩
  · exact q.elim
end
end VL
/-! Subscripts, slices, built-in functions, methods that change nothing, by data. -/
namespace VL
open PySem PySem.Spec PyProof.Rows L2 RX
def optD (o : Option Dt) (M : Dt → Prop) : Prop := ∃ d, o = some d ∧ M d
theorem optD_some {d : Dt} {M : Dt → Prop} : optD (some d) M ↔ M d := ⟨fun ⟨_, e, m⟩ => by cases e; exact m, fun m => ⟨d, rfl, m⟩⟩
section
variable {X : Cx}
theorem ix_dic (hu : X.A.units + 1 < cLine) : IxR X (fun x y H Q => ∃ a v, x = .ref a ∧ DGet H a y (some v) ∧ Q v H) := by
  intro value slice pins s σ H x y ov iv Q I rx ry h hs
  obtain ⟨a, v, rfl, g, q⟩ := h
  obtain rfl : ov = Value.ref a := rx
  have hT := dict_typeIs I g
  have h₂ := d_getItem (Q := EP X pins σ Q) (E := X.xe) hu I g ry fun w' s3 I3 rw' => ⟨v, H, I3, rw', q⟩
  unfold subscriptTail
  refine wpAny_bind ?_
  rw [getitemInPython_of_ne hT.not_modules]
  refine wpAny_bind (wpAny_specialOf hT PySem.F.slot_dict_getitem.lookup ?_)
  have fin : wpAny (model X.prog X.w) X.A (subscripted slice false (.ref a) iv) (fun r s₃ => wpAny (model X.prog X.w) X.A (letTemporaryGo value (.ref a) r >>= fun _ => pure r) (EP X pins σ Q) X.xe s₃) X.xe s := by
    rw [hs]
    exact wpAny_operating (wpAny_mono h₂ (fun r s₃ h₃ => wpAny_bind (wpAny_letTemporaryGo (wpAny_pure h₃))) fun _ _ x => x)
  first
    | exact wpAny_pure (wpAny_bind fin)
    | exact wpAny_bind (wpAny_pure (wpAny_bind fin))
    | exact wpAny_bind fin
theorem atI_rel {g : Geo} {H : Hp} {vs : List V} {ds : List Dt} {i : Int} {d : Dt} (h : RpAll g H vs ds) (e : atI ds i = some d) : ∃ v, atI vs i = some v ∧ Rp g H v d := by
  unfold atI at e ⊢
  rw [h.len]
  cases ej : ixN ds.length i with
  | none => rw [ej] at e; cases e
  | some j => rw [ej] at e; exact h.get e
def ixD : D2
  | .lst xs, .int i, M => optD (atI xs i) M
  | .tup xs, .int i, M => optD (atI xs i) M
  | .str z, .int i, M => z.length ≤ sizeLine ∧ ∃ c, atI z.cps.toList i = some c ∧ M (.str ⟨#[c]⟩)
  | .dic ks ds, .str x, M => optD (lookD ks ds x) M
  | _, _, _ => False
theorem vix (hu : X.A.units + 64 < cLine) : VIx X ixD := by
  intro value slice pins s σ H x y v u Q I rx ry ⟨g, d1, d2, M, c, h1, h2, q, k⟩ hs
  cases d1 <;> cases d2 <;> simp only [ixD] at q <;> try exact q.elim
  · exact ix_str value slice pins s σ H x y v u Q I rx ry ⟨_, _, q.2.choose, h1.str, h2.int, q.1, q.2.choose_spec.1, k _ _ _ q.2.choose_spec.2 (.refl c) (.str _)⟩ hs
  · obtain ⟨a, xs, e1, e2, e3⟩ := h1.lst
    obtain ⟨d, ed, m⟩ := q
    obtain ⟨z, ez, rz⟩ := atI_rel e3 ed
    exact ix_list value slice pins s σ H x y v u Q I rx ry ⟨a, xs, _, z, e1, h2.int, .inl (.inl e2), ez, k _ _ _ m (.refl c) rz⟩ hs
  · obtain ⟨a, xs, e1, e2, e3⟩ := h1.tup
    obtain ⟨d, ed, m⟩ := q
    obtain ⟨z, ez, rz⟩ := atI_rel e3 ed
    exact ix_tup value slice pins s σ H x y v u Q I rx ry ⟨a, xs, _, z, e1, h2.int, .inl (.inl e2), ez, k _ _ _ m (.refl c) rz⟩ hs
  · obtain ⟨a, kv, e1, e2, nd, ek, e3⟩ := h1.dic
    obtain ⟨d, ed, m⟩ := q
    rw [← ek] at ed
    obtain ⟨z, ez, rz⟩ := look_some e3 ed
    refine ix_dic (by omega) value slice pins s σ H x y v u Q I rx ry ⟨a, z, e1, ?_, k _ _ _ m (.refl c) rz⟩ hs
    rw [h2.str, ← ez, ← val_kk]
    exact dget_k e2
end
/-! ### slices -/
section
variable {X : Cx}
abbrev DO := Ev → (Option Int → Prop) → Prop
def lO (t : DO) : TO := fun σ H Q => ∃ f O ρ M, Rel f O H σ ρ ∧ t ρ M ∧ ∀ d H', M d → Nxt (gO f O) H H' → Q d H'
def vNoPart : DO := fun _ M => M none
def vPart (t : DE) : DO := fun ρ M => t ρ fun d => match d with
  | .int i => M (some i)
  | _ => False
theorem vo_none : PO X none (lO vNoPart) := ⟨fun pins s σ H Q I ⟨f, O, ρ, M, r, q, k⟩ => po_none.run pins s σ H Q I (k _ _ q (.refl r.ctx))⟩
theorem vo_some {e : Expr} {t : DE} (h : VE X e t) : PO X (some e) (lO (vPart t)) := ⟨fun pins s σ H Q I ⟨f, O, ρ, M, r, q, k⟩ => (po_some h).run pins s σ H Q I ⟨f, O, ρ, _, r, q, fun d v H' m n p => by
  cases d with
  | int i => exact ⟨i, p.int_inv, k _ _ m n⟩
  | _ => exact m.elim⟩⟩
/-- a part of a list of anything -/
def cutL {α : Type} (xs : List α) (lo hi : Option Int) : List α := (xs.drop (HT.sIx xs.length 0 lo)).take (HT.sIx xs.length xs.length hi - HT.sIx xs.length 0 lo)
theorem RpAll.cut {g : Geo} {H : Hp} {vs : List V} {ds : List Dt} (h : RpAll g H vs ds) (lo hi : Option Int) : RpAll g H (cutV vs lo hi) (cutL ds lo hi) := by
  unfold cutV cutL
  rw [h.len]
  exact (h.drop _).take _
abbrev DSl := Dt → Option Int → Option Int → (Dt → Prop) → Prop
def slD : DSl
  | .str z, lo, hi, M => z.length ≤ sizeLine ∧ M (.str (cutS z lo hi))
  | .tup xs, lo, hi, M => M (.tup (cutL xs lo hi))
  | .lst xs, lo, hi, M => M (.lst (cutL xs lo hi))
  | _, _, _, _ => False
def slFD : DSl
  | .lst xs, lo, hi, M => M (.lst (cutL xs lo hi))
  | _, _, _, _ => False
def vSl (d : DSl) (t : DE) (lo hi : DO) : DE := fun ρ M => t ρ fun x => lo ρ fun l => hi ρ fun u => d x l u M
theorem sIx_hi_le (n d : Nat) (hd : d ≤ n) (o : Option Int) : HT.sIx n d o ≤ n := HT.sIx_le _ _ hd _
theorem vsl_any : SlR X fun x lo hi H Q => ∃ g d M, Ctx g H ∧ Rpc g H x d ∧ slD d lo hi M ∧ ∀ d v H', M d → Nxt g H H' → Rp g H' v d → Q v H' := by
  intro pins s σ H x v vl vu lo hi sl Q I rx hs pl pu ⟨g, d, M, c, h, q, k⟩
  cases d with
  | str z => exact sl_str pins s σ H x v vl vu lo hi sl Q I rx hs pl pu ⟨z, h.str, q.1, k _ _ _ q.2 (.refl c) (.str _)⟩
  | lst xs =>
    obtain ⟨a, vs, e1, e2, e3⟩ := h.lst
    exact sl_list pins s σ H x v vl vu lo hi sl Q I rx hs pl pu ⟨a, vs, e1, .inl (.inl e2), fun p np => k _ _ _ q (.new c np) (OwnC.rp (own_new c np (e3.cut lo hi)) (new_rp c np))⟩
  | tup xs =>
    have r1 := h.rpT
    obtain ⟨a, vs, e1, e2, e3⟩ := h.tup
    subst e1
    refine sl_tupA pins s σ H _ v vl vu lo hi sl Q I rx hs pl pu ⟨a, vs, rfl, .inl (.inl e2), fun z => ?_, fun _ p np => ?_⟩
    · have e : cutL xs lo hi = xs := by
        unfold cutL
        rw [e3.len] at z
        rw [z.1, z.2]
        simp
      exact k _ _ _ q (.refl c) (by rw [e]; exact r1)
    · exact k _ _ _ q (.new c np) (.tup (new_rp c np) upd_same ((e3.cut lo hi).nxt c (.new c np)))
  | _ => exact q.elim
theorem vslF_any : SlR X fun x lo hi H Q => ∃ g d M, Ctx g H ∧ Rpc g H x d ∧ slFD d lo hi M ∧ ∀ d a H', M d → Nxt g H H' → H a = none → OwnC (g.and a) H' a d → Q (.ref a) H' := by
  intro pins s σ H x v vl vu lo hi sl Q I rx hs pl pu ⟨g, d, M, c, h, q, k⟩
  cases d with
  | lst xs =>
    obtain ⟨a, vs, e1, e2, e3⟩ := h.lst
    exact sl_list pins s σ H x v vl vu lo hi sl Q I rx hs pl pu ⟨a, vs, e1, .inl (.inl e2), fun p np => k _ _ _ q (.new c np) np (own_new c np (e3.cut lo hi))⟩
  | _ => exact q.elim
theorem ve_slice {e : Expr} {lo hi : Option Expr} {p2 pos : Pos} {t : DE} {tl th : DO} (he : VC X e t) (hl : PO X lo (lO tl)) (hu : PO X hi (lO th)) : VE X (.Subscript e (.Slice lo hi none p2) pos) (vSl slD t tl th) :=
  pe_imp (pe_slice vsl_any he hl hu) fun σ H Q ⟨f, O, ρ, M, r, q, k⟩ => ⟨f, O, ρ, _, r, q, fun d1 v1 H1 m1 n1 p1 => ⟨f, O, ρ, _, r.nxt n1, m1, fun l H2 m2 n2 => ⟨f, O, ρ, _, (r.nxt n1).nxt n2, m2, fun u H3 m3 n3 =>
    ⟨gO f O, d1, M, (((r.nxt n1).nxt n2).nxt n3).ctx, (p1.nxt (r.nxt n1).ctx n2).nxt ((r.nxt n1).nxt n2).ctx n3, m3, fun d v H' m n p => k _ _ _ m (((n1.trans n2).trans n3).trans n) p⟩⟩⟩⟩
theorem vf_slice {e : Expr} {lo hi : Option Expr} {p2 pos : Pos} {t : DE} {tl th : DO} (he : VC X e t) (hl : PO X lo (lO tl)) (hu : PO X hi (lO th)) : VF X (.Subscript e (.Slice lo hi none p2) pos) (vSl slFD t tl th) :=
  pe_imp (pe_slice vslF_any he hl hu) fun σ H Q ⟨f, O, ρ, M, r, q, k⟩ => ⟨f, O, ρ, _, r, q, fun d1 v1 H1 m1 n1 p1 => ⟨f, O, ρ, _, r.nxt n1, m1, fun l H2 m2 n2 => ⟨f, O, ρ, _, (r.nxt n1).nxt n2, m2, fun u H3 m3 n3 =>
    ⟨gO f O, d1, M, (((r.nxt n1).nxt n2).nxt n3).ctx, (p1.nxt (r.nxt n1).ctx n2).nxt ((r.nxt n1).nxt n2).ctx n3, m3, fun d v H' m n na p => k _ _ _ m (((n1.trans n2).trans n3).trans n) (none_before ((n1.trans n2).trans n3) na) p⟩⟩⟩⟩
end
/-! ### built-in functions -/
section
variable {X : Cx}
theorem pd1 {F : V → Dt → Prop} {vs : List V} {d : Dt} (h : Paired F vs [d]) : ∃ v, vs = [v] ∧ F v d := by
  cases h with | cons a t => cases t; exact ⟨_, rfl, a⟩
theorem pd2 {F : V → Dt → Prop} {vs : List V} {d e : Dt} (h : Paired F vs [d, e]) : ∃ v u, vs = [v, u] ∧ F v d ∧ F u e := by
  cases h with | cons a t => cases t with | cons b t => cases t; exact ⟨_, _, rfl, a, b⟩
def lenD : DK
  | [.str z], M => z.length ≤ sizeLine ∧ M (.int z.length)
  | [.lst xs], M => M (.int xs.length)
  | [.tup xs], M => M (.int xs.length)
  | [.dic ks _], M => M (.int ks.length)
  | _, _ => False
theorem vcall_len : VCall X (.builtin "len") lenD := by
  intro pins s σ H vs us Q I r ⟨g, ds, M, c, p, q, k⟩
  unfold lenD at q
  split at q
  · obtain ⟨v, rfl, h⟩ := pd1 p
    exact call_len_str pins s σ H _ us Q I r ⟨_, by rw [h.str], q.1, k _ _ _ q.2 (.refl c) (.int _)⟩
  · obtain ⟨v, rfl, h⟩ := pd1 p
    obtain ⟨a, xs, e1, e2, e3⟩ := h.lst
    exact call_len_seq pins s σ H _ us Q I r ⟨a, xs, by rw [e1], .inl (.inl (.inl e2)), by rw [e3.len]; exact k _ _ _ q (.refl c) (.int _)⟩
  · obtain ⟨v, rfl, h⟩ := pd1 p
    obtain ⟨a, xs, e1, e2, e3⟩ := h.tup
    exact call_len_seq pins s σ H _ us Q I r ⟨a, xs, by rw [e1], .inr (.inl (.inl e2)), by rw [e3.len]; exact k _ _ _ q (.refl c) (.int _)⟩
  · obtain ⟨v, rfl, h⟩ := pd1 p
    obtain ⟨a, kv, e1, e2, nd, ek, e3⟩ := h.dic
    subst e1
    obtain ⟨u, eu, rx⟩ := vals1 r
    subst eu
    obtain rfl : u = Value.ref a := rx
    refine d_len I e2 fun t s' I' => ⟨.int _, H, I', ⟨t, rfl⟩, ?_⟩
    rw [kk_len, show kv.length = (kv.map (·.1)).length from (List.length_map _).symm, ek]
    exact k _ _ _ q (.refl c) (.int _)
  · exact q.elim
def strFD : DK
  | [.int i], M => i.natAbs.log2 < 1920 ∧ M (.str (toString i))
  | [.str z], M => M (.str z)
  | _, _ => False
theorem vcall_str : VCall X (.type "str") strFD := by
  intro pins s σ H vs us Q I r ⟨g, ds, M, c, p, q, k⟩
  unfold strFD at q
  split at q
  · obtain ⟨v, rfl, h⟩ := pd1 p
    exact call_str_int pins s σ H _ us Q I r ⟨_, by rw [h.int], q.1, k _ _ _ q.2 (.refl c) (.str _)⟩
  · obtain ⟨v, rfl, h⟩ := pd1 p
    exact SkE.call_str_str pins s σ H _ us Q I r ⟨_, by rw [h.str], k _ _ _ q (.refl c) (.str _)⟩
  · exact q.elim
def intFD : DK
  | [.int i], M => M (.int i)
  | [.bl b], M => M (.int (if b then 1 else 0))
  | [.str z], M => ∃ n, PySem.intText? z = some n ∧ z.length ≤ 640 ∧ M (.int n)
  | _, _ => False
theorem vcall_int : VCall X (.type "int") intFD := by
  intro pins s σ H vs us Q I r ⟨g, ds, M, c, p, q, k⟩
  unfold intFD at q
  split at q
  · obtain ⟨v, rfl, h⟩ := pd1 p
    exact call_int1 pins s σ H _ us Q I r (.inl ⟨_, by rw [h.int], k _ _ _ q (.refl c) (.int _)⟩)
  · obtain ⟨v, rfl, h⟩ := pd1 p
    exact call_int1 pins s σ H _ us Q I r (.inr ⟨_, by rw [h.bl], k _ _ _ q (.refl c) (.int _)⟩)
  · obtain ⟨v, rfl, h⟩ := pd1 p
    obtain ⟨n, e, l, m⟩ := q
    exact call_int_str pins s σ H _ us Q I r ⟨_, n, by rw [h.str], e, l, k _ _ _ m (.refl c) (.int _)⟩
  · exact q.elim
def listFD : DK
  | [.lst xs], M => M (.lst xs)
  | [.tup xs], M => M (.lst xs)
  | [.dic ks _], M => M (.lst (ks.map Dt.str))
  | _, _ => False
theorem keys_rp {g : Geo} {H : Hp} (kv : List (PySem.Str × V)) : RpAll g H ((kk kv).map fun p => kV p.1) ((kv.map (·.1)).map Dt.str) := by
  induction kv with
  | nil => exact .nil
  | cons p kv ih => exact .cons (.str _) ih
theorem vcallF_list (hc : X.calm = true) : VCallF X (.type "list") listFD := by
  intro pins s σ H vs us Q I r ⟨g, ds, M, c, p, q, k⟩
  unfold listFD at q
  split at q
  · obtain ⟨v, rfl, h⟩ := pd1 p
    obtain ⟨a, xs, e1, e2, e3⟩ := h.lst
    exact call_list_of pins s σ H _ us Q I r ⟨a, xs, by rw [e1], .inl (.inl (.inl e2)), fun p np => k _ _ _ q (.new c np) np (own_new c np e3)⟩
  · obtain ⟨v, rfl, h⟩ := pd1 p
    obtain ⟨a, xs, e1, e2, e3⟩ := h.tup
    exact call_list_of pins s σ H _ us Q I r ⟨a, xs, by rw [e1], .inr (.inl (.inl e2)), fun p np => k _ _ _ q (.new c np) np (own_new c np e3)⟩
  · obtain ⟨v, rfl, h⟩ := pd1 p
    obtain ⟨a, kv, e1, e2, nd, ek, e3⟩ := h.dic
    subst ek
    exact call_listD hc pins s σ H _ us Q I r ⟨a, _, by rw [e1], e2, fun p np => k _ _ _ q (.new c np) np (own_new c np (keys_rp kv))⟩
  · exact q.elim
def tupleFD : DK
  | [.lst xs], M => M (.tup xs)
  | [.tup xs], M => M (.tup xs)
  | _, _ => False
theorem vcall_tuple : VCall X (.type "tuple") tupleFD := by
  intro pins s σ H vs us Q I r ⟨g, ds, M, c, p, q, k⟩
  unfold tupleFD at q
  split at q
  · obtain ⟨v, rfl, h⟩ := pd1 p
    obtain ⟨a, xs, e1, e2, e3⟩ := h.lst
    exact call_tuple_of pins s σ H _ us Q I r ⟨a, xs, by rw [e1], .inl ⟨.inl (.inl e2), fun p np => k _ _ _ q (.new c np) (.tup (new_rp c np) upd_same (e3.nxt c (.new c np)))⟩⟩
  · obtain ⟨v, rfl, h⟩ := pd1 p
    have r1 := h.rpT
    obtain ⟨a, xs, e1, e2, e3⟩ := h.tup
    subst e1
    exact call_tuple_of pins s σ H _ us Q I r ⟨a, xs, rfl, .inr ⟨.inl (.inl e2), k _ _ _ q (.refl c) r1⟩⟩
  · exact q.elim
def dictFD : DK
  | [.dic ks ds], M => M (.dic ks ds)
  | _, _ => False
theorem vcallF_dict : VCallF X (.type "dict") dictFD := by
  intro pins s σ H vs us Q I r ⟨g, ds, M, c, p, q, k⟩
  unfold dictFD at q
  split at q
  · obtain ⟨v, rfl, h⟩ := pd1 p
    obtain ⟨a, kv, e1, e2, nd, ek, e3⟩ := h.dic
    exact call_dictD pins s σ H _ us Q I r ⟨a, _, by rw [e1], e2, fun p np => k _ _ _ q (.new c np) np ⟨kv, upd_same, nd, ek, e3.and c np⟩⟩
  · exact q.elim
/-- sorted(a dict): its keys in order -/
def sortedKD : DK
  | [.dic ks _], M => ks.length < 64 ∧ ∀ ys : List PySem.Str, ys.Perm ks → sortedS ys = true → M (.lst (ys.map Dt.str))
  | _, _ => False
theorem strs_rp {g : Geo} {H : Hp} (ys : List PySem.Str) : RpAll g H (ys.map V.str) (ys.map Dt.str) := by
  induction ys with
  | nil => exact .nil
  | cons y ys ih => exact .cons (.str _) ih
theorem vcallF_sortedK (hc : X.calm = true) : VCallF X (.builtin "sorted") sortedKD := by
  intro pins s σ H vs us Q I r ⟨g, ds, M, c, p, q, k⟩
  unfold sortedKD at q
  split at q
  · obtain ⟨v, rfl, h⟩ := pd1 p
    obtain ⟨a, kv, e1, e2, nd, ek, e3⟩ := h.dic
    exact call_sortedD hc pins s σ H _ us Q I r ⟨a, _, _, by rw [e1], e2, by unfold kk; rw [← ek, List.map_map, List.map_map]; rfl, q.1, fun ys p pm so np => k _ _ _ (q.2 ys pm so) (.new c np) np (own_new c np (strs_rp ys))⟩
  · exact q.elim
def reprD : DK
  | [d], M => Gd d ∧ M (.str d.sh)
  | _, _ => False
theorem Rpc.rx {g : Geo} {H : Hp} {v : V} {d : Dt} (c : Ctx g H) (h : Rpc g H v d) : RX.Rp g.b H v d := by
  rcases h with h | ⟨a, e, na, h⟩
  · exact Rp.rx c.ob _ _ h
  · subst e
    cases d with
    | lst ds => obtain ⟨xs, e, k⟩ := h; exact .lst na e (RpAll.rx c.ob _ _ k)
    | dic ks ds => obtain ⟨kv, e, nd, ek, k⟩ := h; subst ek; exact .dic na (.inl e) nd (RpAll.rx c.ob _ _ k)
    | _ => exact h.elim
theorem vcall_repr (hg : X.A.guards = some []) (hu : X.A.units + 64 < cLine) : VCall X (.builtin "repr") reprD := by
  intro pins s σ H vs us Q I r ⟨g, ds, M, c, p, q, k⟩
  unfold reprD at q
  split at q
  · obtain ⟨v, rfl, h⟩ := pd1 p
    exact call_reprD hg hu pins s σ H _ us Q I r ⟨v, g.b, _, rfl, h.rx c, q.1, k _ _ _ q.2 (.refl c) (.str _)⟩
  · exact q.elim
/-- the same data -/
def eqSD : D2 := fun d e M => d = e ∧ d.dep ≤ 59 ∧ M (.bl true)
theorem vop_eqS (hu : X.A.units + 64 < cLine) : VOp X (compareOp .Eq) eqSD := by
  intro pins s σ H x y v u Q I rx ry ⟨g, d1, d2, M, c, h1, h2, ⟨e, l, q⟩, k⟩
  subst e
  exact op_eqS hu pins s σ H x y v u Q I rx ry ⟨g.b, d1, h1.rx c, h2.rx c, l, k _ _ _ q (.refl c) (.bl _)⟩
/-! the calls -/
variable {es : List Expr} {e : Expr} {x : PySem.Str} {p pos : Pos} {id T : String} {t : DL} {d : DK}
theorem ve_callB (hc : VCall X (.builtin id) d) (hg : Gl X x) (hm : X.mg x = none) (hv : bootBuiltins x = some (.builtin id)) (ha : VK X (e :: es) t) (hn : x ≠ "__name__" := by decide) (hdb : (x == ("__debug__" : PySem.Str)) = false := by decide)
    (he : starEach (e :: es) X.env = (false, eval e X.env) :: starEach es X.env := by rfl) (hpl : (backTo pos (starEach es X.env)).any (·.1) = false := by rfl) : VE X (.Call (.Name x p) (e :: es) [] pos) (vCall d t) :=
  pe_imp (pe_callB hc hg hm hv ha hn hdb he hpl) fun _ _ _ h => vcall_lift h
theorem ve_callT (hc : VCall X (.type T) d) (hg : Gl X x) (hm : X.mg x = none) (hv : bootBuiltins x = some (.type T)) (ha : VK X (e :: es) t) (hn : x ≠ "__name__" := by decide) (hdb : (x == ("__debug__" : PySem.Str)) = false := by decide)
    (he : starEach (e :: es) X.env = (false, eval e X.env) :: starEach es X.env := by rfl) (hpl : (backTo pos (starEach es X.env)).any (·.1) = false := by rfl) : VE X (.Call (.Name x p) (e :: es) [] pos) (vCall d t) :=
  pe_imp (pe_callTy hc hg hm hv ha hn hdb he hpl) fun _ _ _ h => vcall_lift h
theorem vf_callB (hc : VCallF X (.builtin id) d) (hg : Gl X x) (hm : X.mg x = none) (hv : bootBuiltins x = some (.builtin id)) (ha : VK X (e :: es) t) (hn : x ≠ "__name__" := by decide) (hdb : (x == ("__debug__" : PySem.Str)) = false := by decide)
    (he : starEach (e :: es) X.env = (false, eval e X.env) :: starEach es X.env := by rfl) (hpl : (backTo pos (starEach es X.env)).any (·.1) = false := by rfl) : VF X (.Call (.Name x p) (e :: es) [] pos) (vCall d t) :=
  pe_imp (pe_callB hc hg hm hv ha hn hdb he hpl) fun _ _ _ h => vcallF_lift h
theorem vf_callT (hc : VCallF X (.type T) d) (hg : Gl X x) (hm : X.mg x = none) (hv : bootBuiltins x = some (.type T)) (ha : VK X (e :: es) t) (hn : x ≠ "__name__" := by decide) (hdb : (x == ("__debug__" : PySem.Str)) = false := by decide)
    (he : starEach (e :: es) X.env = (false, eval e X.env) :: starEach es X.env := by rfl) (hpl : (backTo pos (starEach es X.env)).any (·.1) = false := by rfl) : VF X (.Call (.Name x p) (e :: es) [] pos) (vCall d t) :=
  pe_imp (pe_callTy hc hg hm hv ha hn hdb he hpl) fun _ _ _ h => vcallF_lift h
end
end VL
/-! What a for walks, comprehensions, by data. -/
namespace VL
open PySem PySem.Spec PyProof.Rows L2 RX
section
variable {X : Cx} {tg e : Expr} {pos : Pos}
theorem goes_list {K : PySem.W.Frag} {g : Geo} {H : Hp} {a : Addr} {xs : List V} {ds : List Dt} (na : ¬ g.O a) (h : H a = some (.lst xs)) (r : RpAll g H xs ds) : Goes g (Itl K a) ds H :=
  ⟨fun H => SqL K H a xs, _, by rw [← r.len]; exact walk_list (K := K), fun O' H' kp => .inl (.inl (kp a _ na h).1), fun i H2 x H2' O2 kp c y => by
    obtain ⟨rfl, hx⟩ := y
    obtain ⟨d, hd, p⟩ := r.gt hx
    exact ⟨d, hd, .refl c, Rp.mono (fun a o n e => kp a o n e) _ _ p⟩⟩
theorem goes_tup {K : PySem.W.Frag} {g : Geo} {H : Hp} {a : Addr} {xs : List V} {ds : List Dt} (na : ¬ g.O a) (h : H a = some (.tup xs)) (r : RpAll g H xs ds) : Goes g (Itt K a) ds H :=
  ⟨fun H => SqT K H a xs, _, by rw [← r.len]; exact walk_tup (K := K), fun O' H' kp => .inl (.inl (kp a _ na h).1), fun i H2 x H2' O2 kp c y => by
    obtain ⟨rfl, hx⟩ := y
    obtain ⟨d, hd, p⟩ := r.gt hx
    exact ⟨d, hd, .refl c, Rp.mono (fun a o n e => kp a o n e) _ _ p⟩⟩
theorem goes_fup {K : PySem.W.Frag} {g : Geo} {H : Hp} {a : Addr} {o : Obj} {xs : List V} {ds : List Dt} (na : ¬ g.O a) (h : H a = some (.frz o (.tup xs))) (r : RpAll g H xs ds) : Goes g (Itt K a) ds H :=
  ⟨fun H => SqT K H a xs, _, by rw [← r.len]; exact walk_tup (K := K), fun O' H' kp => .inl (.inr ⟨o, (kp a _ na h).1⟩), fun i H2 x H2' O2 kp c y => by
    obtain ⟨rfl, hx⟩ := y
    obtain ⟨d, hd, p⟩ := r.gt hx
    exact ⟨d, hd, .refl c, Rp.mono (fun a o n e => kp a o n e) _ _ p⟩⟩
def charsD (z : PySem.Str) : List Dt := z.cps.toList.map fun c => .str ⟨#[c]⟩
theorem goes_str {g : Geo} {H : Hp} {z : PySem.Str} : Goes g (Its z) (charsD z) H :=
  ⟨_, _, by unfold charsD; rw [List.length_map, Array.length_toList]; exact walk_str, fun _ _ _ => trivial, fun i H2 x H2' O2 kp c y => by
    obtain ⟨rfl, k, hk, rfl⟩ := y
    exact ⟨.str ⟨#[k]⟩, by unfold charsD; rw [List.getElem?_map, Array.getElem?_toList, hk]; rfl, .refl c, .str _⟩⟩
def rangeD (lo : Int) (n : Nat) : List Dt := (List.range n).map fun i => .int (lo + (i : Nat))
theorem goes_range {g : Geo} {H : Hp} {lo : Int} {n : Nat} : Goes g (Itr lo n) (rangeD lo n) H :=
  ⟨_, _, by unfold rangeD; rw [List.length_map, List.length_range]; exact (walk_range (lo := lo) (n := n)).mono (G' := fun _ => True) (Y' := fun i H x H' => H' = H ∧ i < n ∧ x = .int (lo + (i : Nat))) (fun _ h => h) (fun i H x H' hi _ y => ⟨y.1, hi, y.2⟩),
    fun _ _ _ => trivial, fun i H2 x H2' O2 kp c y => by
    obtain ⟨rfl, hi, rfl⟩ := y
    exact ⟨.int (lo + (i : Nat)), by unfold rangeD; rw [List.getElem?_map, List.getElem?_range hi]; rfl, .refl c, .int _⟩⟩
def viSeq (t : DE) : DI := fun ρ M => t ρ fun d => match d with
  | .lst ds => M ds
  | .tup ds => M ds
  | .fup ds => M ds
  | .str z => M (charsD z)
  | _ => False
/-- a list, a tuple or a text -/
theorem vi_seq {t : DE} (hl : VE X e t) : VI X tg e (viSeq t) := by
  refine ⟨fun pins s σ H R I ⟨f, O, ρ, M, r, q, k⟩ => ?_⟩
  refine thn (hl.run pins s σ H (fun v H' => ∃ d, Rp (gO f O) H' v d ∧ Nxt (gO f O) H H' ∧ match d with | .lst ds => M ds | .tup ds => M ds | .fup ds => M ds | .str z => M (charsD z) | _ => False) I ⟨f, O, ρ, _, r, q, fun d v H' m n p => ⟨d, p, n, m⟩⟩) fun v s1 ⟨x, H1, I1, r1, d, p, n, m⟩ => ?_
  cases d with
  | str z =>
    have e := p.str_inv
    subst e
    obtain ⟨t', rfl⟩ := r1
    have q' : R (Its z) H1 := k _ _ _ m n goes_str
    cases ha : z.cps.all (· < 128)
    · exact wpAny_pyIter_wide ha (pi_one (tk := s1.toks) I1 _ (turn_str _ z t' "str_iterator" (.inr rfl)) ⟨_, Heap.get?_push_size _ rfl, rfl, rfl⟩ q')
    · exact wpAny_pyIter_ascii ha (pi_one (tk := s1.toks) I1 _ (turn_str _ z t' "str_ascii_iterator" (.inl rfl)) ⟨_, Heap.get?_push_size _ rfl, rfl, rfl⟩ q')
  | lst ds =>
    obtain ⟨a, xs, e, na, ha, ra⟩ := p.lst_inv
    subst e
    cases r1
    obtain ⟨its, rv, p, hz⟩ := I1.list (.inl (.inl ha))
    refine wpAny_pyIter_list p.isList ?_
    refine ⟨s1.heap.objs.size, [s1.heap.objs.size], _, _, H1, rfl, I1.kept (t' := s1.toks) fun b o e => Heap.get?_push_of_some _ e, turn_list a _, ⟨_, Heap.get?_push_size _ rfl, rfl, rfl⟩, fun b hb => ?_, k _ _ _ m n (goes_list na ha ra)⟩
    have e : b = s1.heap.objs.size := by simpa using hb
    subst e
    exact I1.fpOk (Nat.le_refl _) (I1.hok.fresh (Nat.le_refl _))
  | tup ds =>
    obtain ⟨a, xs, e, na, ha, ra⟩ := p.tup_inv
    subst e
    cases r1
    obtain ⟨its, rv, p, hz⟩ := I1.tuple (.inl (.inl ha))
    refine wpAny_pyIter_tuple (show s1.heap.IsTuple a its.toArray from p) ?_
    refine ⟨s1.heap.objs.size, [s1.heap.objs.size], _, _, H1, rfl, I1.kept (t' := s1.toks) fun b o e => Heap.get?_push_of_some _ e, turn_tuple a _, ⟨_, Heap.get?_push_size _ rfl, rfl, rfl⟩, fun b hb => ?_, k _ _ _ m n (goes_tup na ha ra)⟩
    have e : b = s1.heap.objs.size := by simpa using hb
    subst e
    exact I1.fpOk (Nat.le_refl _) (I1.hok.fresh (Nat.le_refl _))
  | fup ds =>
    obtain ⟨a, o, xs, e, na, ha, _, ra⟩ := p.fup_inv
    subst e
    cases r1
    obtain ⟨its, rv, p, hz⟩ := I1.tuple (.inl (.inr ⟨o, ha⟩))
    refine wpAny_pyIter_tuple (show s1.heap.IsTuple a its.toArray from p) ?_
    refine ⟨s1.heap.objs.size, [s1.heap.objs.size], _, _, H1, rfl, I1.kept (t' := s1.toks) fun b o e => Heap.get?_push_of_some _ e, turn_tuple a _, ⟨_, Heap.get?_push_size _ rfl, rfl, rfl⟩, fun b hb => ?_, k _ _ _ m n (goes_fup na ha ra)⟩
    have e : b = s1.heap.objs.size := by simpa using hb
    subst e
    exact I1.fpOk (Nat.le_refl _) (I1.hok.fresh (Nat.le_refl _))
  | _ => exact m.elim
def viRange1 (t : DL) : DI := fun ρ M => t ρ fun ds => match ds with
  | [.int j] => (-(2 ^ 62) ≤ j ∧ j < 2 ^ 62) ∧ M (rangeD 0 j.toNat)
  | _ => False
def viRange2 (t : DL) : DI := fun ρ M => t ρ fun ds => match ds with
  | [.int i, .int j] => (-(2 ^ 62) ≤ i ∧ i < 2 ^ 62 ∧ -(2 ^ 62) ≤ j ∧ j < 2 ^ 62) ∧ M (rangeD i (j - i).toNat)
  | _ => False
theorem pdv1 {F : V → Dt → Prop} {vs : List V} {ds : List Dt} {G : List Dt → Prop} (h : Paired F vs ds) : True := trivial
theorem vi_range1 {a : Expr} {t : DL} {p : Pos} (hg : Gl X "range") (hm : X.mg "range" = none) (ha : VLs X [a] t) (hs : starEach [a] X.env = [(false, eval a X.env)] := by rfl) : VI X tg (.Call (.Name "range" p) [a] [] pos) (viRange1 t) :=
  pi_imp (pi_range1 hg hm ha hs) fun σ H R ⟨f, O, ρ, M, r, q, k⟩ => ⟨f, O, ρ, _, r, q, fun ds vs H' m n p => by
    split at m
    · cases p with
      | cons p1 p2 =>
        cases p2
        exact ⟨_, by rw [p1.int_inv], m.1.1, m.1.2, k _ _ _ m.2 n goes_range⟩
    · exact m.elim⟩
theorem vi_range2 {a b : Expr} {t : DL} {p : Pos} (hg : Gl X "range") (hm : X.mg "range" = none) (ha : VLs X [a, b] t) (hs : starEach [a, b] X.env = [(false, eval a X.env), (false, eval b X.env)] := by rfl) (hs2 : starEach [b] X.env = [(false, eval b X.env)] := by rfl) : VI X tg (.Call (.Name "range" p) [a, b] [] pos) (viRange2 t) :=
  pi_imp (pi_range2 hg hm ha hs hs2) fun σ H R ⟨f, O, ρ, M, r, q, k⟩ => ⟨f, O, ρ, _, r, q, fun ds vs H' m n p => by
    split at m
    · cases p with
      | cons p1 p2 =>
        cases p2 with
        | cons p2 p3 =>
          cases p3
          exact ⟨_, _, by rw [p1.int_inv, p2.int_inv], m.1, k _ _ _ m.2 n goes_range⟩
    · exact m.elim⟩
end
/-! ### comprehensions -/
def wipeE (ρ : Ev) : List Nat → Ev
  | [] => ρ
  | v :: vs => (wipeE ρ vs).set v none
theorem wipeE_len (ρ : Ev) : ∀ vs, (wipeE ρ vs).length = ρ.length
  | [] => rfl
  | v :: vs => by unfold wipeE; rw [List.length_set, wipeE_len ρ vs]
theorem wipeE_some {ρ : Ev} {i : Nat} {w : W} : ∀ {vs : List Nat}, (wipeE ρ vs)[i]? = some (some w) → ρ[i]? = some (some w) ∧ i ∉ vs
  | [], h => ⟨h, by simp⟩
  | v :: vs, h => by
    unfold wipeE at h
    by_cases hi : v = i
    · subst hi
      rw [List.getElem?_set] at h
      by_cases l : v < (wipeE ρ vs).length <;> simp [l] at h
    · rw [List.getElem?_set_ne hi] at h
      obtain ⟨h1, h2⟩ := wipeE_some h
      exact ⟨h1, fun m => (List.mem_cons.mp m).elim (fun e => hi e.symm) h2⟩
section
variable {f : Fr} {O : Addr → Prop} {H H' : Hp} {σ : L2.St} {ρ : Ev}
theorem Rel.wipe (r : Rel f O H σ ρ) (vs : List Nat) : Rel f O H (L2.wipe σ vs) (wipeE ρ vs) := by
  have key : ∀ (i : Nat) (w : W), (wipeE ρ vs)[i]? = some (some w) → ρ[i]? = some (some w) ∧ (L2.wipe σ vs)[i]? = σ[i]? := fun i w e => by
    obtain ⟨h1, h2⟩ := wipeE_some e
    exact ⟨h1, wipe_out h2⟩
  refine ⟨by rw [wipe_length, wipeE_len]; exact r.len, r.ctx, r.ctx0, r.frm, r.sub, fun i w e => ?_, fun i j x y a e1 e2 e3 e4 => ?_⟩
  · obtain ⟨h1, h2⟩ := key i w e
    rw [h2]
    exact r.sl i w h1
  · obtain ⟨h1, g1⟩ := key i _ e1
    obtain ⟨h2, g2⟩ := key j _ e2
    exact r.apart i j x y a h1 h2 (by rw [← g1]; exact e3) (by rw [← g2]; exact e4)
/-- a thing that no slot holds is changed -/
theorem Rel.put (r : Rel f O H σ ρ) {D : Addr} {o : HO} (oD : O D) (fD : f.H D = none) (ap : ∀ (i : Nat) (x : Dt), ρ[i]? = some (some (.own x)) → σ[i]? ≠ some (some (.ref D))) : Rel f O (upd H D o) σ ρ := by
  have nb := r.nb fD
  have nl := r.nl fD
  obtain ⟨l, cs, ow, hl, lb⟩ := r.ctx.bag.own
  have al : D ≠ l := fun z => nl (z ▸ ow)
  obtain ⟨bg, ow'⟩ := Bag.set (o := o) r.ctx.bag ow nb al
  have keep : ∀ x u, x ≠ D → H x = some u → upd H D o x = some u := fun x u z e => by rw [upd_ne z]; exact e
  refine ⟨r.len, ⟨r.ctx.ob, bg, fun x hx => ?_, fun l' hl' => ?_⟩, r.ctx0, ⟨fun x u n e => keep x u (fun z => by rw [z, fD] at e; cases e) (r.frm.app x u n e), fun p q s m e => ?_⟩, r.sub, fun j w e2 => ?_, r.apart⟩
  · by_cases z : x = D
    · exact ⟨o, by rw [z]; exact upd_same⟩
    · obtain ⟨u, hu⟩ := r.ctx.al x hx
      exact ⟨u, keep _ _ z hu⟩
  · rw [Own.fn hl' ow']
    exact r.ctx.ol _ ow
  · obtain ⟨p', q', s', e'⟩ := r.frm.fo p q s m e
    exact ⟨p', q', s', keep _ _ nb.symm e'⟩
  · obtain ⟨v, ev2, q⟩ := r.sl j w e2
    refine ⟨v, ev2, ?_⟩
    cases w with
    | d x => exact Rp.chg (g := gO f O) oD q
    | own x =>
      obtain ⟨c, q1, q2, q3, q4⟩ := q
      subst q1
      have ca : c ≠ D := fun z => ap j x e2 (by rw [ev2, z])
      exact ⟨c, rfl, q2, q3, OwnC.mono (g := gO f O) (fun x u no e => ⟨keep x u (fun z => no (z ▸ oD)) e, no⟩) (fun u e => keep _ _ ca e) q4⟩
    | ro x =>
      obtain ⟨c, q1, q2, q3, q4⟩ := q
      exact ⟨c, q1, q2, q3, OwnC.mono (g := gO f O) (fun x u no e => ⟨keep x u (fun z => no (z ▸ oD)) e, no⟩) (fun u e => keep _ _ (r.rne q3 fD) e) q4⟩
    | bag => exact q
theorem Rel.fresh_ap (r : Rel f O H σ ρ) {D : Addr} (h : H D = none) : ∀ (i : Nat) (x : Dt), ρ[i]? = some (some (.own x)) → σ[i]? ≠ some (some (.ref D)) := fun i x e z => by
  obtain ⟨v, ev, a, e1, e2, _⟩ := r.sl i _ e
  rw [ev] at z
  cases z; cases e1
  obtain ⟨o, ho⟩ := r.ctx.al D e2
  rw [h] at ho; cases ho
end
theorem Sets.wipe {σ σ' : L2.St} {vs : List Nat} (h : Sets vs (L2.wipe σ vs) σ') : L2.wipe σ' vs = L2.wipe σ vs := by
  have none_in : ∀ (σ : L2.St) (vs : List Nat) (i : Nat), i ∈ vs → i < σ.length → (L2.wipe σ vs)[i]? = some none := fun σ vs => by
    induction vs with
    | nil => intro i h; cases h
    | cons v vs ih =>
      intro i h l
      unfold L2.wipe
      by_cases e : v = i
      · subst e
        rw [List.getElem?_set]
        simp [wipe_length, l]
      · rw [List.getElem?_set_ne e]
        exact ih i ((List.mem_cons.mp h).resolve_left fun z => e z.symm) l
  apply List.ext_getElem?
  intro i
  have hl : σ'.length = σ.length := h.1.trans (wipe_length _ _)
  by_cases m : i ∈ vs
  · by_cases l : i < σ.length
    · rw [none_in σ' vs i m (by rw [hl]; exact l), none_in σ vs i m l]
    · rw [List.getElem?_eq_none (by rw [wipe_length, hl]; omega), List.getElem?_eq_none (by rw [wipe_length]; omega)]
  · rw [wipe_out m, h.2 i m]
section
variable {X : Cx} {pos : Pos}
abbrev VTs (X : Cx) (ifs : List Expr) (t : DT) : Prop := PTs X ifs (lT t)
def vYes : DT := fun _ M => M true
theorem vts_nil : VTs X [] vYes := ⟨fun pins s σ H Q I ⟨f, O, ρ, M, r, q, k⟩ => pts_nil.run pins s σ H Q I (k _ _ q (.refl r.ctx))⟩
theorem vts_one {c : Expr} {t : DT} (h : VT X c t) : VTs X [c] t := pts_one h
def vLc (ti : DI) (g : DG) (tt : DT) (te : DE) (vs : List Nat) : DE := fun ρ M => ti ρ fun ds => ∃ W : Nat → List Dt → Prop, W 0 [] ∧
  (∀ i d acc, ds[i]? = some d → W i acc → g d (wipeE ρ vs) fun ρ2 => tt ρ2 fun b => if b = true then te ρ2 fun y => acc.length < sizeLine ∧ W (i + 1) (acc ++ [y]) else W (i + 1) acc) ∧ ∀ acc, W ds.length acc → M (.lst acc)
theorem vlc_body {g : DG} {tt : DT} {te : DE} {vs : List Nat} {σ : L2.St} {Q : L2.VK} {f : Fr} {O : Addr → Prop} {ρ : Ev} {H1 : Hp} {J : It} {ds : List Dt} {M : Dt → Prop} (r1 : Rel f O H1 σ ρ) (go : Goes (gO f O) J ds H1) (W : Nat → List Dt → Prop) (w0 : W 0 [])
    (turn : ∀ i d acc, ds[i]? = some d → W i acc → g d (wipeE ρ vs) fun ρ2 => tt ρ2 fun b => if b = true then te ρ2 fun y => acc.length < sizeLine ∧ W (i + 1) (acc ++ [y]) else W (i + 1) acc) (done : ∀ acc, W ds.length acc → M (.lst acc))
    (k : ∀ d a H', M d → Nxt (gO f O) H1 H' → H1 a = none → OwnC ((gO f O).and a) H' a d → Q (.ref a) H') :
    ∀ D, H1 D = none → ∃ W : Nat → Nat → Hp → Prop, (∃ m, W 0 m (upd H1 D (.lst []))) ∧ ∀ i m H, W i m H →
      (J.stop i H ∧ Q (.ref D) H) ∨ (J.go i H ∧ ∃ Nx : Hp → Prop, (∀ H', Nx H' → ∃ m', m' < m ∧ W (i + 1) m' H') ∧ ∀ x H', J.yld i H x H' → (lG vs g) x (L2.wipe σ vs) H' fun σ2 H2 => L2.wipe σ2 vs = L2.wipe σ vs ∧ (lT tt) σ2 H2 fun b H3 =>
        if b = true then (lE te) σ2 H3 fun y H4 => ∃ acc, H4 D = some (.lst acc) ∧ acc.length < sizeLine ∧ Nx (upd H4 D (.lst (acc ++ [y]))) else Nx H3) := by
  intro D hD
  obtain ⟨G, Y, wk, hG, hY⟩ := go.ex
  have kD : Kep O H1 ((gO f O).and D).O (upd H1 D (.lst [])) := kep_new r1 (.new r1.ctx hD) hD
  have fD : f.H D = none := r1.none_of hD
  have ap := r1.fresh_ap hD
  refine lc_it wk (fun i Hc => ∃ acc us, Hc D = some (.lst us) ∧ RpAll ((gO f O).and D) Hc us acc ∧ W i acc ∧ Rel f ((gO f O).and D).O Hc σ ρ ∧ Nxt (gO f O) H1 Hc ∧ Kep O H1 ((gO f O).and D).O Hc) ⟨[], [], upd_same, .nil, w0, r1.and hD, .new r1.ctx hD, kD⟩ ?_ ?_ ?_
  · rintro i Hc _ ⟨acc, us, hd, ra, w, rr, nn, kp⟩
    exact hG _ _ kp
  · rintro i x Hc H2 hi ⟨acc, us, hd, ra, w, rr, nn, kp⟩ y
    obtain ⟨d, hdi, n2, p2⟩ := hY i Hc x H2 _ kp rr.ctx y
    have rw2 := (rr.nxt n2).wipe vs
    refine ⟨f, _, wipeE ρ vs, _, d, rw2, p2, turn i d acc hdi w, fun ρ2 σ2 m2 r2 s2 => ⟨s2.wipe, f, _, ρ2, _, r2, m2, fun b H3 m3 n3 => ?_⟩⟩
    have n23 := n2.trans n3
    have hd3 : H3 D = some (.lst us) := n23.c.app D _ (r1.nb fD) hd
    have ra3 : RpAll ((gO f O).and D) H3 us acc := ra.nxt rr.ctx n23
    have lift : ∀ {Hx : Hp}, Nxt ((gO f O).and D) Hc Hx → Nxt (gO f O) H1 Hx := fun nx => nn.trans ⟨nx.c, nx.bag⟩
    cases b with
    | false => exact ⟨acc, us, hd3, ra3, m3, rr.nxt n23, lift n23, kp.trans (n23.kep rr.ctx)⟩
    | true =>
      refine ⟨f, _, ρ2, _, r2.nxt n3, m3, fun yd yv H4 ⟨sz, w4⟩ n4 p4 => ?_⟩
      have n24 := n23.trans n4
      have hd4 : H4 D = some (.lst us) := n24.c.app D _ (r1.nb fD) hd
      have ra4 : RpAll ((gO f O).and D) H4 us acc := ra.nxt rr.ctx n24
      have oD : ((gO f O).and D).O D := .inr rfl
      refine ⟨us, hd4, by rw [ra4.len]; exact sz, acc ++ [yd], us ++ [yv], upd_same, (ra4.app (.cons p4 .nil)).chg oD, w4, (rr.nxt n24).put oD fD ap, ?_, ?_⟩
      · have n14 := lift n24
        refine ⟨⟨fun a o ne e => ?_, fun x y z l e => ?_⟩, ((rr.nxt n24).put oD fD ap).ctx.bag⟩
        · have := n14.c.app a o ne e
          rw [upd_ne (fun z => by rw [z, hD] at e; cases e)]
          exact this
        · obtain ⟨x', y', z', e'⟩ := n14.c.fo x y z l e
          exact ⟨x', y', z', by rw [upd_ne (r1.nb fD).symm]; exact e'⟩
      · intro a o no e
        obtain ⟨e1, e2⟩ := kp a o no e
        exact ⟨by rw [upd_ne (fun z => e2 (.inr z))]; exact n24.c.app a o (fun z => no (z ▸ r1.ctx.ob)) e1, e2⟩
  · rintro Hc ⟨acc, us, hd, ra, w, rr, nn, kp⟩
    exact k _ _ _ (done acc w) nn hD ⟨us, hd, ra⟩
theorem vlc_lift {ti : DI} {g : DG} {tt : DT} {te : DE} {vs : List Nat} {σ : L2.St} {H : Hp} {Q : L2.VK} (h : lF (vLc ti g tt te vs) σ H Q) : tLc (lI ti) (lG vs g) (lT tt) (lE te) vs σ H Q := by
  obtain ⟨f, O, ρ, M, r, q, k⟩ := h
  exact ⟨f, O, ρ, _, r, q, fun ds J H1 ⟨W, w0, turn, done⟩ n go => vlc_body (r.nxt n) go W w0 turn done fun d a H' m n' na oc => k d a H' m (n.trans n') (none_before n na) oc⟩
theorem vf_lc {elt tg iter : Expr} {ifs : List Expr} {scope : Scope} {own : List (PySem.Str × Nat)} {ti : DI} {g : DG} {tt : DT} {te : DE} (hc : X.calm = true) (hN : X.N.Nodup) (hi : VI X tg iter ti) (ok : BlkOk X.N X.env.scope scope own)
    (hg : ∀ (s : Shared) (H : Hp) (C : Addr) (cl : List (PySem.Str × Addr)) (fp : List Addr), VG (X.blk s H scope (compEnvC scope cl C X.env) fp) (own.map (·.2)) tg g) (ht : ∀ (s : Shared) (H : Hp) (C : Addr) (cl : List (PySem.Str × Addr)) (fp : List Addr), VTs (X.blk s H scope (compEnvC scope cl C X.env) fp) ifs tt)
    (he : ∀ (s : Shared) (H : Hp) (C : Addr) (cl : List (PySem.Str × Addr)) (fp : List Addr), VE (X.blk s H scope (compEnvC scope cl C X.env) fp) elt te) (hs : ∀ x, foldedSetIterable iter X.env x = pure x := by intro _; rfl) :
    VF X (.ListComp elt [⟨tg, iter, ifs, 0⟩] scope pos) (vLc ti g tt te (own.map (·.2))) := pe_imp (pe_lc hc hN hi ok hg ht he hs) fun _ _ _ h => vlc_lift h
/-- name = [..] on one line -/
theorem vs_setLcO {fr : Bool} {i : Nat} {y : PySem.Str} {py : Pos} {elt tg iter : Expr} {ifs : List Expr} {scope : Scope} {own : List (PySem.Str × Nat)} {spos : Pos} {ti : DI} {g : DG} {tt : DT} {te : DE} (hc : X.calm = true) (hN : X.N.Nodup) (hy : X.N[i]? = some y) (hyl : X.env.scope.names.lookup y = some .local)
    (hsw : swapsWith (.ListComp elt [⟨tg, iter, ifs, 0⟩] scope pos) (some (.Name y py)) spos.line X.env = pure true) (hi : VI X tg iter ti) (ok : BlkOk X.N X.env.scope scope own)
    (hg : ∀ (s : Shared) (H : Hp) (C : Addr) (cl : List (PySem.Str × Addr)) (fp : List Addr), VG (X.blk s H scope (compEnvC scope cl C X.env) fp) (own.map (·.2)) tg g) (ht : ∀ (s : Shared) (H : Hp) (C : Addr) (cl : List (PySem.Str × Addr)) (fp : List Addr), VTs (X.blk s H scope (compEnvC scope cl C X.env) fp) ifs tt)
    (he : ∀ (s : Shared) (H : Hp) (C : Addr) (cl : List (PySem.Str × Addr)) (fp : List Addr), VE (X.blk s H scope (compEnvC scope cl C X.env) fp) elt te) (hs : ∀ x, foldedSetIterable iter X.env x = pure x := by intro _; rfl) :
    VS fr X (.Assign [.Name y py] (.ListComp elt [⟨tg, iter, ifs, 0⟩] scope pos) spos) (dSetO i (vLc ti g tt te (own.map (·.2)))) :=
  ps_imp (ps_setLc hc hN hy hyl hsw hi ok hg ht he hs) fun E σ H ⟨f, O, ρ, D, r, q, k⟩ => vlc_lift ⟨f, O, ρ, _, r, q, fun d a H1 m n na p => k.nx _ _ _ _ m (r.setO n na p) (kep_new r n na)⟩
theorem vs_setLc {fr : Bool} {i : Nat} {y : PySem.Str} {py : Pos} {elt tg iter : Expr} {ifs : List Expr} {scope : Scope} {own : List (PySem.Str × Nat)} {spos : Pos} {ti : DI} {g : DG} {tt : DT} {te : DE} (hc : X.calm = true) (hN : X.N.Nodup) (hy : X.N[i]? = some y) (hyl : X.env.scope.names.lookup y = some .local)
    (hsw : swapsWith (.ListComp elt [⟨tg, iter, ifs, 0⟩] scope pos) (some (.Name y py)) spos.line X.env = pure true) (hi : VI X tg iter ti) (ok : BlkOk X.N X.env.scope scope own)
    (hg : ∀ (s : Shared) (H : Hp) (C : Addr) (cl : List (PySem.Str × Addr)) (fp : List Addr), VG (X.blk s H scope (compEnvC scope cl C X.env) fp) (own.map (·.2)) tg g) (ht : ∀ (s : Shared) (H : Hp) (C : Addr) (cl : List (PySem.Str × Addr)) (fp : List Addr), VTs (X.blk s H scope (compEnvC scope cl C X.env) fp) ifs tt)
    (he : ∀ (s : Shared) (H : Hp) (C : Addr) (cl : List (PySem.Str × Addr)) (fp : List Addr), VE (X.blk s H scope (compEnvC scope cl C X.env) fp) elt te) (hs : ∀ x, foldedSetIterable iter X.env x = pure x := by intro _; rfl) :
    VS fr X (.Assign [.Name y py] (.ListComp elt [⟨tg, iter, ifs, 0⟩] scope pos) spos) (dSet i (vLc ti g tt te (own.map (·.2)))) :=
  ps_imp (ps_setLc hc hN hy hyl hsw hi ok hg ht he hs) fun E σ H ⟨f, O, ρ, D, r, q, k⟩ => vlc_lift ⟨f, O, ρ, _, r, q, fun d a H1 m n na p => k.nx _ _ _ _ m ((r.nxt n).setD (p.rp (not_new r na))) (n.kep r.ctx)⟩
end
end VL
/-! Methods, by data; what a def changes of its own. -/
namespace VL
open PySem PySem.Spec PyProof.Rows L2 RX
section
variable {X : Cx} {o e : Expr} {es : List Expr} {name : PySem.Str} {apos cpos : Pos} {T id : String}
def tyD (T : String) : Dt → Prop
  | .str _ => T = "str"
  | .int _ => T = "int"
  | .lst _ => T = "list"
  | .dic _ _ => T = "dict"
  | _ => False
theorem Rpc.ty {K : PySem.W.Frag} {g : Geo} {H : Hp} {x : V} {d : Dt} (h : Rpc g H x d) (t : tyD T d) : tyV K T x H ∨ ∃ a kv, x = .ref a ∧ T = "dict" ∧ Rd H a (.dK kv) := by
  cases d with
  | str z => have := h.str; subst this; exact .inl t
  | int z => have := h.int; subst this; exact .inl t
  | lst ds => obtain ⟨a, xs, e, ha, _⟩ := h.lst; subst e; exact .inl (.inl ⟨t, _, .inl (.inl ha)⟩)
  | dic ks ds => obtain ⟨a, kv, e, ha, _⟩ := h.dic; exact .inr ⟨a, _, e, t, ha⟩
  | _ => exact t.elim
abbrev DM := Dt → List Dt → (Dt → Prop) → Prop
/-- a method of texts and lists that changes nothing -/
def VMt (X : Cx) (id : String) (d : DM) : Prop := MtR X id fun x vs H Q => ∃ g d0 ds M, Ctx g H ∧ Rpc g H x d0 ∧ Paired (Rpc g H) vs ds ∧ d d0 ds M ∧ ∀ d v H', M d → Nxt g H H' → Rp g H' v d → Q v H'
def VMtF (X : Cx) (id : String) (d : DM) : Prop := MtR X id fun x vs H Q => ∃ g d0 ds M, Ctx g H ∧ Rpc g H x d0 ∧ Paired (Rpc g H) vs ds ∧ d d0 ds M ∧ ∀ d a H', M d → Nxt g H H' → H a = none → OwnC (g.and a) H' a d → Q (.ref a) H'
def tySL (T : String) : Dt → Prop
  | .str _ => T = "str"
  | .lst _ => T = "list"
  | _ => False
theorem Rpc.tySL {K : PySem.W.Frag} {g : Geo} {H : Hp} {x : V} {d : Dt} (h : Rpc g H x d) (t : tySL T d) : tyV K T x H := by
  cases d with
  | str z => have := h.str; subst this; exact t
  | lst ds => obtain ⟨a, xs, e, ha, _⟩ := h.lst; subst e; exact .inl ⟨t, _, .inl (.inl ha)⟩
  | _ => exact t.elim
def vMeth (T : String) (d : DM) (to : DE) (ta : DL) : DE := fun ρ M => to ρ fun x => tySL T x ∧ ta ρ fun ds => d x ds M
theorem ve_bm {d : DM} {to : DE} {ta : DL} (pa : PlainAttrs T) (slot : Slot T name id) (hty : typeOf (.builtin id) = pure (.type "method_descriptor")) (hm : VMt X id d) (ho : VC X o to) (ha : VK X (e :: es) ta)
    (hbase : attributeBase o name X.env (eval o X.env) = eval o X.env := by rfl)
    (hfew : ((backTo cpos (starEach (e :: es) X.env)).all (fun x => !x.1) && (backToKw cpos (keywordEach [] X.env)).all (fun x => x.1.isSome)
      && decide ((e :: es).length + ([] : List Keyword).length + (if ([] : List Keyword).isEmpty then 0 else 1) < 30)) = true := by rfl)
    (hline : (apos.endLine == cpos.line) = true := by rfl) (hs : starEach (e :: es) X.env = (false, eval e X.env) :: starEach es X.env := by rfl) (hplain : (backTo cpos (starEach es X.env)).any (·.1) = false := by rfl) :
    VE X (.Call (.Attribute o name apos) (e :: es) [] cpos) (vMeth T d to ta) :=
  pe_imp (pe_bm pa slot hty hm ho ha hbase hfew hline hs hplain) fun σ H Q ⟨f, O, ρ, M, r, q, k⟩ => ⟨f, O, ρ, _, r, q, fun d1 v1 H1 ⟨t1, m1⟩ n1 p1 => ⟨p1.tySL t1, f, O, ρ, _, r.nxt n1, m1, fun ds vs H2 m2 n2 p2 =>
    ⟨gO f O, d1, ds, M, ((r.nxt n1).nxt n2).ctx, p1.nxt (r.nxt n1).ctx n2, p2, m2, fun d v H' m n p => k _ _ _ m ((n1.trans n2).trans n) p⟩⟩⟩
theorem vf_bm {d : DM} {to : DE} {ta : DL} (pa : PlainAttrs T) (slot : Slot T name id) (hty : typeOf (.builtin id) = pure (.type "method_descriptor")) (hm : VMtF X id d) (ho : VC X o to) (ha : VK X (e :: es) ta)
    (hbase : attributeBase o name X.env (eval o X.env) = eval o X.env := by rfl)
    (hfew : ((backTo cpos (starEach (e :: es) X.env)).all (fun x => !x.1) && (backToKw cpos (keywordEach [] X.env)).all (fun x => x.1.isSome)
      && decide ((e :: es).length + ([] : List Keyword).length + (if ([] : List Keyword).isEmpty then 0 else 1) < 30)) = true := by rfl)
    (hline : (apos.endLine == cpos.line) = true := by rfl) (hs : starEach (e :: es) X.env = (false, eval e X.env) :: starEach es X.env := by rfl) (hplain : (backTo cpos (starEach es X.env)).any (·.1) = false := by rfl) :
    VF X (.Call (.Attribute o name apos) (e :: es) [] cpos) (vMeth T d to ta) :=
  pe_imp (pe_bm pa slot hty hm ho ha hbase hfew hline hs hplain) fun σ H Q ⟨f, O, ρ, M, r, q, k⟩ => ⟨f, O, ρ, _, r, q, fun d1 v1 H1 ⟨t1, m1⟩ n1 p1 => ⟨p1.tySL t1, f, O, ρ, _, r.nxt n1, m1, fun ds vs H2 m2 n2 p2 =>
    ⟨gO f O, d1, ds, M, ((r.nxt n1).nxt n2).ctx, p1.nxt (r.nxt n1).ctx n2, p2, m2, fun d v H' m n na p => k _ _ _ m ((n1.trans n2).trans n) (none_before (n1.trans n2) na) p⟩⟩⟩
/-! texts -/
/-- a list of texts -/
def strsOf : List Dt → Option (List PySem.Str)
  | [] => some []
  | .str x :: ds => (strsOf ds).map (x :: ·)
  | _ => none
theorem strsOf_map (xs : List PySem.Str) : strsOf (xs.map Dt.str) = some xs := by
  induction xs with
  | nil => rfl
  | cons x xs ih => simp [strsOf, ih]
theorem strsOf_eq {ds : List Dt} {xs : List PySem.Str} (h : strsOf ds = some xs) : ds = xs.map Dt.str := by
  induction ds generalizing xs with
  | nil => simp [strsOf] at h; subst h; rfl
  | cons d ds ih =>
    cases d with
    | str x =>
      simp only [strsOf, Option.map_eq_some_iff] at h
      obtain ⟨ys, e1, e2⟩ := h
      subst e2
      rw [ih e1]; rfl
    | _ => simp [strsOf] at h
theorem rp_strs_inv {g : Geo} {H : Hp} {vs : List V} : ∀ {xs : List PySem.Str}, RpAll g H vs (xs.map Dt.str) → vs = xs.map V.str := by
  intro xs h
  induction xs generalizing vs with
  | nil => cases h; rfl
  | cons x xs ih =>
    cases h with
    | cons a t => rw [a.str_inv, ih t]; rfl
/-- sep.join(list or tuple of texts) -/
def joinD : DM
  | .str a, [.lst ds], M => ∃ ys, strsOf ds = some ys ∧ (ys.map (·.length)).sum + ys.length * a.length ≤ 16777216 ∧ M (.str (Txt.join a ys))
  | .str a, [.tup ds], M => ∃ ys, strsOf ds = some ys ∧ (ys.map (·.length)).sum + ys.length * a.length ≤ 16777216 ∧ M (.str (Txt.join a ys))
  | _, _, _ => False
theorem vmt_join : VMt X "str.join" joinD := by
  intro pins s σ H x vs v us Q I rx rvs ⟨g, d0, ds, M, c, h, p, q, k⟩
  unfold joinD at q
  split at q
  · obtain ⟨z, rfl, hz⟩ := pd1 p
    obtain ⟨ys, e, l, m⟩ := q
    have := strsOf_eq e
    subst this
    obtain ⟨b, xs, e1, e2, e3⟩ := hz.lst
    have := rp_strs_inv e3
    subst this
    exact mt_join pins s σ H x _ v us Q I rx rvs ⟨_, b, ys, h.str, by rw [e1], .inl (.inl (.inl e2)), l, k _ _ _ m (.refl c) (.str _)⟩
  · obtain ⟨z, rfl, hz⟩ := pd1 p
    obtain ⟨ys, e, l, m⟩ := q
    have := strsOf_eq e
    subst this
    obtain ⟨b, xs, e1, e2, e3⟩ := hz.tup
    have := rp_strs_inv e3
    subst this
    exact mt_join pins s σ H x _ v us Q I rx rvs ⟨_, b, ys, h.str, by rw [e1], .inr (.inl (.inl e2)), l, k _ _ _ m (.refl c) (.str _)⟩
  · exact q.elim
def splitD : DM
  | .str a, [.str b], M => (b.length == 0) = false ∧ a.length + 2 ≤ sizeLine ∧ M (.lst ((Txt.split a b).map Dt.str))
  | _, _, _ => False
theorem vmtF_split : VMtF X "str.split" splitD := by
  intro pins s σ H x vs v us Q I rx rvs ⟨g, d0, ds, M, c, h, p, q, k⟩
  unfold splitD at q
  split at q
  · obtain ⟨z, rfl, hz⟩ := pd1 p
    exact mt_split pins s σ H x _ v us Q I rx rvs ⟨_, _, h.str, by rw [hz.str], q.1, q.2.1, fun p np => k _ _ _ q.2.2 (.new c np) np (own_new c np (strs_rp _))⟩
  · exact q.elim
def startsD : DM
  | .str a, [.str b], M => M (.bl (Txt.startswith a b))
  | _, _, _ => False
theorem vmt_startswith : VMt X "str.startswith" startsD := by
  intro pins s σ H x vs v us Q I rx rvs ⟨g, d0, ds, M, c, h, p, q, k⟩
  unfold startsD at q
  split at q
  · obtain ⟨z, rfl, hz⟩ := pd1 p
    exact mt_startswith pins s σ H x _ v us Q I rx rvs ⟨_, _, h.str, by rw [hz.str], k _ _ _ q (.refl c) (.bl _)⟩
  · exact q.elim
def rempreD : DM
  | .str a, [.str b], M => a.length ≤ sizeLine ∧ M (.str (Txt.removeprefix a b))
  | _, _, _ => False
theorem vmt_removeprefix : VMt X "str.removeprefix" rempreD := by
  intro pins s σ H x vs v us Q I rx rvs ⟨g, d0, ds, M, c, h, p, q, k⟩
  unfold rempreD at q
  split at q
  · obtain ⟨z, rfl, hz⟩ := pd1 p
    exact mt_removeprefix pins s σ H x _ v us Q I rx rvs ⟨_, _, h.str, by rw [hz.str], q.1, k _ _ _ q.2 (.refl c) (.str _)⟩
  · exact q.elim
/-! dicts: d.get(k), d.get(k, x) -/
def isDic : Dt → Prop
  | .dic _ _ => True
  | _ => False
theorem Rpc.isD {g : Geo} {H : Hp} {x : V} {ks : List PySem.Str} {ds : List Dt} (h : Rpc g H x (.dic ks ds)) : ∃ a, x = .ref a ∧ IsD H a := by
  obtain ⟨a, kv, e, ha, _⟩ := h.dic
  exact ⟨a, e, .inl ⟨_, ha⟩⟩
def vGet1 (to te : DE) : DE := fun ρ M => to ρ fun x => isDic x ∧ te ρ fun y => match x, y with
  | .dic ks ds, .str z => M ((lookD ks ds z).getD .non)
  | _, _ => False
theorem ve_get1 {to te : DE} (hu : X.A.units + 1 < cLine) (ho : VC X o to) (he : VE X e te) (m : M1 X o "get" apos e cpos) : VE X (.Call (.Attribute o "get" apos) [e] [] cpos) (vGet1 to te) :=
  pe_imp (pe_dget1 hu ho he m) fun σ H Q ⟨f, O, ρ, M, r, q, k⟩ => ⟨f, O, ρ, _, r, q, fun d1 v1 H1 ⟨t1, m1⟩ n1 p1 => by
    cases d1 with
    | dic ks ds =>
      obtain ⟨a, e, hd⟩ := p1.isD
      subst e
      refine ⟨a, rfl, hd, f, O, ρ, _, r.nxt n1, m1, fun d2 v2 H2 m2 n2 p2 => ?_⟩
      cases d2 with
      | str z =>
        have e2 := p2.str_inv
        subst e2
        obtain ⟨a', kv, e, ha, nd, ek, rr⟩ := (p1.nxt (r.nxt n1).ctx n2).dic
        cases e
        subst ek
        refine ⟨_, dget_k ha, ?_⟩
        rw [val_kk]
        have m2 : M ((lookD (kv.map (·.1)) ds z).getD .non) := m2
        cases el : lookD (kv.map (·.1)) ds z with
        | none =>
          rw [look_none rr el]
          rw [el] at m2
          exact k _ _ _ m2 (n1.trans n2) .non
        | some d =>
          obtain ⟨v, ev, rv⟩ := look_some rr el
          rw [ev]
          rw [el] at m2
          exact k _ _ _ m2 (n1.trans n2) rv
      | _ => exact m2.elim
    | _ => exact t1.elim⟩
/-! isinstance with a built-in class -/
def tyName : Dt → String
  | .non => "NoneType" | .bl _ => "bool" | .int _ => "int" | .str _ => "str" | .lst _ => "list" | .tup _ => "tuple" | .fup _ => "tuple" | .dic _ _ => "dict"
def isTyN (n T : String) : Bool := decide (n = T ∨ (T = "int" ∧ n = "bool"))
def isTy (T : String) (d : Dt) : Bool := isTyN (tyName d) T
theorem kit_all (K : PySem.W.Frag) (d : Dt) (hT : T ∈ ["bool", "int", "str", "list", "dict", "tuple"]) : PySem.W.kitOne K (.type (tyName d)) (.type T) = some (isTy T d) := by
  have hn : tyName d ∈ ["NoneType", "bool", "int", "str", "list", "tuple", "dict"] := by cases d <;> simp [tyName]
  unfold isTy
  generalize tyName d = n at hn
  simp only [List.mem_cons, List.not_mem_nil, or_false] at hT hn
  rcases hT with rfl | rfl | rfl | rfl | rfl | rfl <;> rcases hn with rfl | rfl | rfl | rfl | rfl | rfl | rfl <;> exact kit_ty (by decide +kernel)
theorem Rpc.tyx {K : PySem.W.Frag} {g : Geo} {H : Hp} {v : V} {d : Dt} (h : Rpc g H v d) : TyX K H v (.type (tyName d)) := by
  cases d with
  | non => have := h.non; subst this; exact .base .non
  | bl b => have := h.bl; subst this; exact .base (.bl _)
  | int i => have := h.int; subst this; exact .base (.int _)
  | str z => have := h.str; subst this; exact .base (.str _)
  | lst ds => obtain ⟨a, xs, e, ha, _⟩ := h.lst; subst e; exact .base (.lst ha)
  | tup ds => obtain ⟨a, xs, e, ha, _⟩ := h.tup; subst e; exact .base (.tup ha)
  | fup ds => obtain ⟨a, o, xs, e, ha, _⟩ := h.fup; subst e; exact .fTuple ha
  | dic ks ds =>
    obtain ⟨a, kv, e, ha, _⟩ := h.dic; subst e
    rcases ha with ha | ⟨o, ha⟩
    · exact .base (.dK ha)
    · exact .fDict ha
def vIsI (T : String) (t : DE) : DE := fun ρ M => t ρ fun d => M (.bl (isTy T d))
theorem ve_isinst {x y : PySem.Str} {p p2 pos : Pos} {t : DE} (hT : T ∈ ["bool", "int", "str", "list", "dict", "tuple"]) (hg : Gl X x) (hm : X.mg x = none) (hv : bootBuiltins x = some (.builtin "isinstance")) (hg2 : Gl X y) (hm2 : X.mg y = none) (hv2 : bootBuiltins y = some (.type T)) (ha : VC X e t)
    (hn : x ≠ "__name__" := by decide) (hdb : (x == ("__debug__" : PySem.Str)) = false := by decide) (hn2 : y ≠ "__name__" := by decide) (hdb2 : (y == ("__debug__" : PySem.Str)) = false := by decide)
    (he : starEach [e, .Name y p2] X.env = (false, eval e X.env) :: starEach [.Name y p2] X.env := by rfl) (he2 : starEach [.Name y p2] X.env = (false, eval (.Name y p2) X.env) :: starEach [] X.env := by rfl) (hpl : (backTo pos (starEach [.Name y p2] X.env)).any (·.1) = false := by rfl) :
    VE X (.Call (.Name x p) [e, .Name y p2] [] pos) (vIsI T t) :=
  pe_imp (pe_callB call_isi hg hm hv (pa_cons ha (pa_cons (pe_bltn (v := .ty T) hg2 hm2 hv2 rfl hn2 hdb2) pa_nil he2) he) hn hdb he hpl) fun σ H Q ⟨f, O, ρ, M, r, q, k⟩ => ⟨f, O, ρ, _, r, q, fun d1 v1 H1 m1 n1 p1 =>
    ⟨v1, .ty T, _, _, _, rfl, .ty T, p1.tyx, kit_all _ d1 hT, k _ _ _ m1 n1 (.bl _)⟩⟩
end
end VL
/-! What a def changes of its own: lists and dicts. -/
namespace VL
open PySem PySem.Spec PyProof.Rows L2 RX
/-! puts and drops of dicts, by data -/
def keysP (ks : List PySem.Str) (k : PySem.Str) : List PySem.Str := if k ∈ ks then ks else ks ++ [k]
def valsP (ks : List PySem.Str) (ds : List Dt) (k : PySem.Str) (d : Dt) : List Dt := if k ∈ ks then List.zipWith (fun k0 d0 => if k0 = k then d else d0) ks ds else ds ++ [d]
def keysX (ks : List PySem.Str) (k : PySem.Str) : List PySem.Str := ks.filter fun k0 => !decide (k0 = k)
def valsX (ks : List PySem.Str) (ds : List Dt) (k : PySem.Str) : List Dt := ((ks.zip ds).filter fun p => !decide (p.1 = k)).map (·.2)
def putV' (kv : List (PySem.Str × V)) (k : PySem.Str) (v : V) : List (PySem.Str × V) := if k ∈ kv.map (·.1) then kv.map (fun p => if p.1 = k then (p.1, v) else p) else kv ++ [(k, v)]
theorem inr_eq (a b : PySem.Str) : ((Sum.inr a : L2.Key) = Sum.inr b) = (a = b) := propext ⟨fun z => Sum.inr.inj z, fun z => by rw [z]⟩
theorem putK_kk (kv : List (PySem.Str × V)) (k : PySem.Str) (v : V) : putK (kk kv) (Sum.inr k) v = kk (putV' kv k v) := by
  unfold putV' putK kk
  have ha : ((kv.map fun p => ((Sum.inr p.1 : L2.Key), p.2)).any fun kv => decide (kv.1 = Sum.inr k)) = decide (k ∈ kv.map (·.1)) := by
    induction kv with
    | nil => rfl
    | cons p kv ih =>
      rw [List.map_cons, List.any_cons, ih]
      by_cases e : p.1 = k
      · simp [e]
      · have : ¬ k = p.1 := fun z => e z.symm
        simp [e, this]
  rw [ha]
  by_cases m : k ∈ kv.map (·.1)
  · rw [if_pos (decide_eq_true m), if_pos m, List.map_map, List.map_map]
    refine List.map_congr_left fun p _ => ?_
    show (if (Sum.inr p.1 : L2.Key) = Sum.inr k then ((Sum.inr p.1 : L2.Key), v) else (Sum.inr p.1, p.2)) = _
    by_cases e : p.1 = k
    · simp [e]
    · simp [e]
  · rw [if_neg (by simpa using m), if_neg m, List.map_append]
    rfl
theorem putV_keys (kv : List (PySem.Str × V)) (k : PySem.Str) (v : V) : (putV' kv k v).map (·.1) = keysP (kv.map (·.1)) k := by
  unfold putV' keysP
  split
  · rw [List.map_map]
    refine List.map_congr_left fun p _ => ?_
    show (if p.1 = k then (p.1, v) else p).1 = p.1
    split <;> rfl
  · rw [List.map_append]; rfl
theorem keysP_nodup {ks : List PySem.Str} {k : PySem.Str} (h : ks.Nodup) : (keysP ks k).Nodup := by
  unfold keysP
  split
  · exact h
  · next n => exact List.nodup_append.mpr ⟨h, by simp, fun a ha b hb => by rw [List.mem_singleton] at hb; exact fun z => n (by rw [← hb, ← z]; exact ha)⟩
theorem zip_rel {g : Geo} {H : Hp} {k : PySem.Str} {v : V} {d : Dt} (h : Rp g H v d) : ∀ {kv : List (PySem.Str × V)} {ds : List Dt}, RpAll g H (kv.map (·.2)) ds →
    RpAll g H ((kv.map (fun p => if p.1 = k then (p.1, v) else p)).map (·.2)) (List.zipWith (fun k0 d0 => if k0 = k then d else d0) (kv.map (·.1)) ds)
  | [], _, r => by cases r; exact .nil
  | p :: kv, _, r => by
    cases r with
    | @cons _ _ d0 ds a t =>
      refine .cons ?_ (zip_rel h t)
      show Rp g H (if p.1 = k then (p.1, v) else p).2 (if p.1 = k then d else d0)
      split
      · exact h
      · exact a
theorem putV_rel {g : Geo} {H : Hp} {k : PySem.Str} {v : V} {d : Dt} {kv : List (PySem.Str × V)} {ds : List Dt} (h : Rp g H v d) (r : RpAll g H (kv.map (·.2)) ds) : RpAll g H ((putV' kv k v).map (·.2)) (valsP (kv.map (·.1)) ds k d) := by
  unfold putV' valsP
  split
  · exact zip_rel h r
  · rw [List.map_append]
    exact r.app (.cons h .nil)
def dropV' (kv : List (PySem.Str × V)) (k : PySem.Str) : List (PySem.Str × V) := kv.filter fun p => !decide (p.1 = k)
theorem dropK_kk (kv : List (PySem.Str × V)) (k : PySem.Str) : dropK (kk kv) (Sum.inr k) = kk (dropV' kv k) := by
  unfold dropV' dropK kk
  rw [List.filter_map]
  congr 1
  refine List.filter_congr fun p _ => ?_
  show decide ((Sum.inr p.1 : L2.Key) ≠ Sum.inr k) = _
  by_cases e : p.1 = k <;> simp [e]
theorem dropV_keys (kv : List (PySem.Str × V)) (k : PySem.Str) : (dropV' kv k).map (·.1) = keysX (kv.map (·.1)) k := by
  unfold dropV' keysX
  rw [List.filter_map]
  rfl
theorem keysX_nodup {ks : List PySem.Str} {k : PySem.Str} (h : ks.Nodup) : (keysX ks k).Nodup := h.sublist List.filter_sublist
theorem dropV_rel {g : Geo} {H : Hp} {k : PySem.Str} {kv : List (PySem.Str × V)} {ds : List Dt} (r : RpAll g H (kv.map (·.2)) ds) : RpAll g H ((dropV' kv k).map (·.2)) (valsX (kv.map (·.1)) ds k) := by
  unfold dropV' valsX
  induction kv generalizing ds with
  | nil => cases r; exact .nil
  | cons p kv ih =>
    cases r with
    | @cons _ _ d ds a t =>
      rw [List.map_cons, List.zip_cons_cons, List.filter_cons, List.filter_cons]
      by_cases e : p.1 = k
      · simp only [e, decide_true, Bool.not_true]
        exact ih t
      · simp only [e, decide_false, Bool.not_false]
        exact .cons a (ih t)
section
variable {X : Cx} {fr : Bool} {o e : Expr} {es : List Expr} {name : PySem.Str} {apos cpos pos : Pos} {T id : String}
/-! ### methods that change their receiver -/
abbrev DMu := Dt → List Dt → (Dt → Dt → Prop) → Prop
def VMu (X : Cx) (id : String) (d : DMu) : Prop := MtR X id fun x vs H Q => ∃ g a d0 ds M, x = .ref a ∧ Ctx g H ∧ g.O a ∧ a ≠ g.b ∧ OwnC g H a d0 ∧ RpAll g H vs ds ∧ d d0 ds M ∧ ∀ r v d' o, M r d' → OwnC g (upd H a o) a d' → Rp g (upd H a o) v r → Q v (upd H a o)
def VMuC (X : Cx) (id : String) (d : DMu) : Prop := MtR X id fun x vs H Q => ∃ g a d0 ds M, x = .ref a ∧ Ctx g H ∧ g.O a ∧ a ≠ g.b ∧ OwnC g H a d0 ∧ Paired (Rpc g H) vs ds ∧ d d0 ds M ∧ ∀ r v d' o, M r d' → OwnC g (upd H a o) a d' → Rp g (upd H a o) v r → Q v (upd H a o)
def tyM (T : String) : Dt → Prop
  | .lst _ => T = "list"
  | .dic _ _ => T = "dict"
  | _ => False
theorem OwnC.tyM {K : PySem.W.Frag} {g : Geo} {H : Hp} {a : Addr} {d : Dt} (h : OwnC g H a d) (t : tyM T d) : tyV K T (.ref a) H := by
  cases d with
  | lst ds => obtain ⟨xs, e, _⟩ := h; exact .inl ⟨t, _, .inl (.inl e)⟩
  | dic ks ds => obtain ⟨kv, e, _⟩ := h; exact .inr (.inr (.inl ⟨t, .inl ⟨_, e⟩⟩))
  | _ => exact t.elim
/-- own.m(..) as a statement -/
def dMu (i : Nat) (T : String) (d : DMu) (ta : DL) : DS := fun D ρ => match ρ[i]? with
  | some (some (.own x)) => tyM T x ∧ ta ρ fun ds => d x ds fun _ x' => D.nx (ρ.set i (some (.own x')))
  | _ => False
/-- name = own.m(..) -/
def dMuS (i j : Nat) (T : String) (d : DMu) (ta : DL) : DS := fun D ρ => match ρ[i]? with
  | some (some (.own x)) => tyM T x ∧ ta ρ fun ds => d x ds fun r x' => D.nx ((ρ.set i (some (.own x'))).set j (some (.d r)))
  | _ => False
def tMu (K : PySem.W.Frag) (T : String) (r : V → List V → Hp → L2.VK → Prop) (i : Nat) (t : TA) : TE := tBM K T r (tVar i) t
theorem mu_lift {i : Nat} {d : DMu} {ta : DL} {f : Fr} {O : Addr → Prop} {H : Hp} {σ : L2.St} {ρ : Ev} {x : Dt} {M : Dt → Dt → Prop} {Q : L2.VK} (r : Rel f O H σ ρ) (e : ρ[i]? = some (some (.own x))) (t : tyM T x) (q : ta ρ fun ds => d x ds M)
    (k : ∀ (rd : Dt) (v : V) (x' : Dt) (H2 : Hp), M rd x' → Rel f O H2 σ (ρ.set i (some (.own x'))) → Kep O H O H2 → Rp (gO f O) H2 v rd → Q v H2) {K : PySem.W.Frag} :
    (tVar i) σ H fun v0 H1 => tyV K T v0 H1 ∧ (lL ta) σ H1 fun vs H2 => ∃ g a d0 ds M, v0 = .ref a ∧ Ctx g H2 ∧ g.O a ∧ a ≠ g.b ∧ OwnC g H2 a d0 ∧ RpAll g H2 vs ds ∧ d d0 ds M ∧ ∀ r v d' o, M r d' → OwnC g (upd H2 a o) a d' → Rp g (upd H2 a o) v r → Q v (upd H2 a o) := by
  obtain ⟨v, ev, a, e1, oa, fa, oc⟩ := r.sl _ _ e
  subst e1
  refine ⟨_, ev, oc.tyM t, f, O, ρ, _, r, q, fun ds vs H1 m n p => ?_⟩
  have r1 := r.nxt n
  obtain ⟨v', ev', a', e1', oa', fa', oc'⟩ := r1.sl _ _ e
  rw [ev] at ev'
  cases ev'; cases e1'
  refine ⟨gO f O, a, x, ds, M, rfl, r1.ctx, oa, r1.nb fa, oc', p, m, fun rd v x' o mm oc2 rp => ?_⟩
  exact k rd v x' _ mm (r1.chg e ev oc2) ((n.kep r.ctx).trans fun y u no eq => ⟨by rw [upd_ne (fun z : y = a => no (z ▸ oa))]; exact eq, no⟩) rp
theorem muC_lift {i : Nat} {d : DMu} {ta : DL} {f : Fr} {O : Addr → Prop} {H : Hp} {σ : L2.St} {ρ : Ev} {x : Dt} {M : Dt → Dt → Prop} {Q : L2.VK} (r : Rel f O H σ ρ) (e : ρ[i]? = some (some (.own x))) (t : tyM T x) (q : ta ρ fun ds => d x ds M)
    (k : ∀ (rd : Dt) (v : V) (x' : Dt) (H2 : Hp), M rd x' → Rel f O H2 σ (ρ.set i (some (.own x'))) → Kep O H O H2 → Rp (gO f O) H2 v rd → Q v H2) {K : PySem.W.Frag} :
    (tVar i) σ H fun v0 H1 => tyV K T v0 H1 ∧ (lK ta) σ H1 fun vs H2 => ∃ g a d0 ds M, v0 = .ref a ∧ Ctx g H2 ∧ g.O a ∧ a ≠ g.b ∧ OwnC g H2 a d0 ∧ Paired (Rpc g H2) vs ds ∧ d d0 ds M ∧ ∀ r v d' o, M r d' → OwnC g (upd H2 a o) a d' → Rp g (upd H2 a o) v r → Q v (upd H2 a o) := by
  obtain ⟨v, ev, a, e1, oa, fa, oc⟩ := r.sl _ _ e
  subst e1
  refine ⟨_, ev, oc.tyM t, f, O, ρ, _, r, q, fun ds vs H1 m n p => ?_⟩
  have r1 := r.nxt n
  obtain ⟨v', ev', a', e1', oa', fa', oc'⟩ := r1.sl _ _ e
  rw [ev] at ev'
  cases ev'; cases e1'
  refine ⟨gO f O, a, x, ds, M, rfl, r1.ctx, oa, r1.nb fa, oc', p, m, fun rd v x' o mm oc2 rp => ?_⟩
  exact k rd v x' _ mm (r1.chg e ev oc2) ((n.kep r.ctx).trans fun y u no eq => ⟨by rw [upd_ne (fun z : y = a => no (z ▸ oa))]; exact eq, no⟩) rp
theorem vs_mu {i : Nat} {x : PySem.Str} {p : Pos} {d : DMu} {ta : DL} (hN : X.N[i]? = some x) (hv : Vis X.env.scope x) (pa : PlainAttrs T) (slot : Slot T name id) (hty : typeOf (.builtin id) = pure (.type "method_descriptor")) (hm : VMu X id d) (ha : VLs X (e :: es) ta)
    (hd : (x == ("__debug__" : PySem.Str)) = false := by decide) (hcd : (x == ("__classdict__" : PySem.Str)) = false := by decide)
    (hbase : attributeBase (.Name x p) name X.env (eval (.Name x p) X.env) = eval (.Name x p) X.env := by rfl)
    (hfew : ((backTo cpos (starEach (e :: es) X.env)).all (fun x => !x.1) && (backToKw cpos (keywordEach [] X.env)).all (fun x => x.1.isSome)
      && decide ((e :: es).length + ([] : List Keyword).length + (if ([] : List Keyword).isEmpty then 0 else 1) < 30)) = true := by rfl)
    (hline : (apos.endLine == cpos.line) = true := by rfl) (hs : starEach (e :: es) X.env = (false, eval e X.env) :: starEach es X.env := by rfl) (hplain : (backTo cpos (starEach es X.env)).any (·.1) = false := by rfl)
    (hsw : swapsWith (.Call (.Attribute (.Name x p) name apos) (e :: es) [] cpos) none pos.line X.env = pure false := by rfl) :
    VS fr X (.Expr (.Call (.Attribute (.Name x p) name apos) (e :: es) [] cpos) pos) (dMu i T d ta) :=
  ps_imp (ps_expr (pe_bm pa slot hty hm (pe_var hN hv hd hcd) ha hbase hfew hline hs hplain) hsw) fun E σ H ⟨f, O, ρ, D, r, q, k⟩ => by
    unfold dMu at q
    split at q
    · next x e => exact mu_lift r e q.1 q.2 fun rd v x' H2 m r2 kp _ => k.nx _ _ _ _ m r2 kp
    · exact q.elim
theorem vs_muC {i : Nat} {x : PySem.Str} {p : Pos} {d : DMu} {ta : DL} (hN : X.N[i]? = some x) (hv : Vis X.env.scope x) (pa : PlainAttrs T) (slot : Slot T name id) (hty : typeOf (.builtin id) = pure (.type "method_descriptor")) (hm : VMuC X id d) (ha : VK X (e :: es) ta)
    (hd : (x == ("__debug__" : PySem.Str)) = false := by decide) (hcd : (x == ("__classdict__" : PySem.Str)) = false := by decide)
    (hbase : attributeBase (.Name x p) name X.env (eval (.Name x p) X.env) = eval (.Name x p) X.env := by rfl)
    (hfew : ((backTo cpos (starEach (e :: es) X.env)).all (fun x => !x.1) && (backToKw cpos (keywordEach [] X.env)).all (fun x => x.1.isSome)
      && decide ((e :: es).length + ([] : List Keyword).length + (if ([] : List Keyword).isEmpty then 0 else 1) < 30)) = true := by rfl)
    (hline : (apos.endLine == cpos.line) = true := by rfl) (hs : starEach (e :: es) X.env = (false, eval e X.env) :: starEach es X.env := by rfl) (hplain : (backTo cpos (starEach es X.env)).any (·.1) = false := by rfl)
    (hsw : swapsWith (.Call (.Attribute (.Name x p) name apos) (e :: es) [] cpos) none pos.line X.env = pure false := by rfl) :
    VS fr X (.Expr (.Call (.Attribute (.Name x p) name apos) (e :: es) [] cpos) pos) (dMu i T d ta) :=
  ps_imp (ps_expr (pe_bm pa slot hty hm (pe_var hN hv hd hcd) ha hbase hfew hline hs hplain) hsw) fun E σ H ⟨f, O, ρ, D, r, q, k⟩ => by
    unfold dMu at q
    split at q
    · next x e => exact muC_lift r e q.1 q.2 fun rd v x' H2 m r2 kp _ => k.nx _ _ _ _ m r2 kp
    · exact q.elim
def appendD : DMu
  | .lst xs, [d], M => xs.length < sizeLine ∧ M .non (.lst (xs ++ [d]))
  | _, _, _ => False
theorem vmu_append : VMu X "list.append" appendD := by
  intro pins s σ H x vs v us Q I rx rvs ⟨g, a, d0, ds, M, e, c, oa, nb, oc, p, q, k⟩
  unfold appendD at q
  split at q
  · cases p with
    | cons p1 p2 =>
      cases p2
      obtain ⟨xs, ha, r⟩ := oc
      exact mt_append pins s σ H x _ v us Q I rx rvs ⟨a, xs, _, e, rfl, ha, by rw [r.len]; exact q.1, k _ _ _ _ q.2 ⟨_, upd_same, (r.chg oa).app (.cons (p1.chg oa) .nil)⟩ .non⟩
  · exact q.elim
def extendD : DMu
  | .lst xs, [.lst ys], M => xs.length + ys.length ≤ sizeLine ∧ M .non (.lst (xs ++ ys))
  | _, _, _ => False
theorem vmu_extend : VMuC X "list.extend" extendD := by
  intro pins s σ H x vs v us Q I rx rvs ⟨g, a, d0, ds, M, e, c, oa, nb, oc, p, q, k⟩
  unfold extendD at q
  split at q
  · obtain ⟨z, rfl, hz⟩ := pd1 p
    obtain ⟨xs, ha, r⟩ := oc
    obtain ⟨b, ys, e1, e2, e3⟩ := hz.lst
    exact mt_extend pins s σ H x _ v us Q I rx rvs ⟨a, b, xs, ys, e, by rw [e1], ha, e2, by rw [r.len, e3.len]; exact q.1, k _ _ _ _ q.2 ⟨_, upd_same, (r.app e3).chg oa⟩ .non⟩
  · exact q.elim
def insertD : DMu
  | .lst xs, [.int i, d], M => xs.length < sizeLine ∧ 0 ≤ i ∧ i < 2 ^ 63 ∧ M .non (.lst (xs.take i.toNat ++ [d] ++ xs.drop i.toNat))
  | _, _, _ => False
theorem vmu_insert : VMu X "list.insert" insertD := by
  intro pins s σ H x vs v us Q I rx rvs ⟨g, a, d0, ds, M, e, c, oa, nb, oc, p, q, k⟩
  unfold insertD at q
  split at q
  · cases p with
    | cons p1 p2 =>
      cases p2 with
      | cons p2 p3 =>
        cases p3
        obtain ⟨xs, ha, r⟩ := oc
        exact mt_insert pins s σ H x _ v us Q I rx rvs ⟨a, xs, _, _, e, by rw [p1.int_inv], ha, by rw [r.len]; exact q.1, q.2.1, q.2.2.1, k _ _ _ _ q.2.2.2 ⟨_, upd_same, (((r.take _).app (.cons p2 .nil)).app (r.drop _)).chg oa⟩ .non⟩
  · exact q.elim
/-! ### own[k] = value -/
abbrev D3 := Dt → Dt → Dt → (Dt → Prop) → Prop
def setD : D3
  | .lst xs, .int i, d, M => 0 ≤ i ∧ i < 2 ^ 63 ∧ i.toNat < xs.length ∧ M (.lst (xs.set i.toNat d))
  | .dic ks ds, .str k, d, M => ks.length < sizeLine ∧ M (.dic (keysP ks k) (valsP ks ds k d))
  | _, _, _, _ => False
/-- own[k] = value, for dicts -/
def putD : D3
  | .dic ks ds, .str k, d, M => ks.length < sizeLine ∧ M (.dic (keysP ks k) (valsP ks ds k d))
  | _, _, _, _ => False
theorem set_dic (hu : X.A.units + 1 < cLine) : PSet X fun o i v H Q => ∃ a H', o = .ref a ∧ DPut H a i v H' ∧ Q H' := by
  intro pins s σ H o i v ov iv u Q I ro ri rv h
  obtain ⟨a, H', rfl, g, q⟩ := h
  obtain rfl : ov = Value.ref a := ro
  exact d_setItem hu I g ri rv fun s4 I4 => ⟨H', I4, q⟩
def dPut (i : Nat) (tk tv : DE) : DS := fun D ρ => tv ρ fun d => match ρ[i]? with
  | some (some (.own x)) => tk ρ fun y => putD x y d fun x' => D.nx (ρ.set i (some (.own x')))
  | _ => False
theorem vs_put {i : Nat} {x : PySem.Str} {p tpos : Pos} {ke : Expr} {tk tv : DE} (hu : X.A.units + 1 < cLine) (hN : X.N[i]? = some x) (hv : Vis X.env.scope x) (hk : VE X ke tk) (he : VE X e tv) (hs : swapsWith e (some (.Subscript (.Name x p) ke tpos)) pos.line X.env = pure false := by rfl)
    (hd : (x == ("__debug__" : PySem.Str)) = false := by decide) (hcd : (x == ("__classdict__" : PySem.Str)) = false := by decide) :
    VS fr X (.Assign [.Subscript (.Name x p) ke tpos] e pos) (dPut i tk tv) :=
  ps_imp (ps_dput hu (pe_var hN hv hd hcd) hk he hs) fun E σ H ⟨f, O, ρ, D, r, q, k⟩ => ⟨f, O, ρ, _, r, q, fun d v H1 m n p => by
    split at m
    · next x' ei =>
      have r1 := r.nxt n
      obtain ⟨w, ew, a, e1, oa, fa, oc⟩ := r1.sl _ _ ei
      subst e1
      refine ⟨_, ew, f, O, ρ, _, r1, m, fun y yv H2 m2 n2 p2 => ?_⟩
      have r2 := r1.nxt n2
      obtain ⟨w', ew', a', e1', oa', fa', oc'⟩ := r2.sl _ _ ei
      rw [ew] at ew'
      cases ew'; cases e1'
      unfold putD at m2
      split at m2
      · obtain ⟨kv, ha, nd, ek, rr⟩ := oc'
        subst ek
        have e2 := p2.str_inv
        subst e2
        refine ⟨a, _, rfl, DPut.k (k := Sum.inr _) ha (by rw [kk_len]; simpa using m2.1), ?_⟩
        rw [putK_kk]
        have pv := p.nxt (g := gO f O) r1.ctx n2
        refine k.nx _ _ _ _ m2.2 (r2.chg ei ew ⟨putV' kv _ v, upd_same, by rw [putV_keys]; exact keysP_nodup nd, putV_keys kv _ v, (putV_rel pv rr).chg oa⟩) (((n.kep r.ctx).trans (n2.kep r1.ctx)).trans fun y u no eq => ⟨by rw [upd_ne (fun z : y = a => no (z ▸ oa))]; exact eq, no⟩)
      · exact m2.elim
    · exact m.elim⟩
/-! ### name = own.pop(k); del own[k] -/
def dPop (i j : Nat) (tk : DE) : DS := fun D ρ => match ρ[i]? with
  | some (some (.own x)) => isDic x ∧ tk ρ fun y => match x, y with
    | .dic ks ds, .str k => ∃ d, lookD ks ds k = some d ∧ D.nx ((ρ.set i (some (.own (.dic (keysX ks k) (valsX ks ds k))))).set j (some (.d d)))
    | _, _ => False
  | _ => False
theorem vs_pop {i j : Nat} {x y : PySem.Str} {p p' : Pos} {tk : DE} (hN : X.N.Nodup) (hi : X.N[i]? = some x) (hv : Vis X.env.scope x) (hj : X.N[j]? = some y) (hl : Loc X.env.scope y) (he : VE X e tk) (m : M1 X (.Name x p) "pop" apos e cpos)
    (hs : swapsWith (.Call (.Attribute (.Name x p) "pop" apos) [e] [] cpos) (some (.Name y p')) pos.line X.env = pure false := by rfl)
    (hf : X.fn y = true ∨ X.env.scope.names.lookup y = some .local := by first | exact .inl rfl | exact .inr rfl | assumption)
    (hd : (x == ("__debug__" : PySem.Str)) = false := by decide) (hcd : (x == ("__classdict__" : PySem.Str)) = false := by decide) :
    VS fr X (.Assign [.Name y p'] (.Call (.Attribute (.Name x p) "pop" apos) [e] [] cpos) pos) (dPop i j tk) :=
  ps_imp (ps_set hN hj hl (pe_dpop1 (pe_var hi hv hd hcd) he m) hs hf) fun E σ H ⟨f, O, ρ, D, r, q, k⟩ => by
    unfold dPop at q
    split at q
    · next x' ei =>
      obtain ⟨w, ew, a, e1, oa, fa, oc⟩ := r.sl _ _ ei
      subst e1
      cases x' with
      | dic ks ds =>
        have hd : IsD H a := by obtain ⟨kv, ha, _⟩ := oc; exact .inl ⟨_, .inl ha⟩
        refine ⟨_, ew, a, rfl, hd, f, O, ρ, _, r, q.2, fun yd yv H2 m2 n2 p2 => ?_⟩
        have r2 := r.nxt n2
        obtain ⟨w', ew', a', e1', oa', fa', oc'⟩ := r2.sl _ _ ei
        rw [ew] at ew'
        cases ew'; cases e1'
        cases yd with
        | str z =>
          obtain ⟨kv, ha, nd, ek, rr⟩ := oc'
          subst ek
          obtain ⟨d, ed, m2⟩ := m2
          obtain ⟨v, ev, rv⟩ := look_some rr ed
          refine ⟨kk kv, Sum.inr z, v, ha, p2.str_inv, by rw [val_kk]; exact ev, ?_⟩
          rw [dropK_kk]
          have rc := r2.chg (o := .dK (kk (dropV' kv z))) (d := .dic (keysX (kv.map (·.1)) z) (valsX (kv.map (·.1)) ds z)) ei ew ⟨dropV' kv z, upd_same, by rw [dropV_keys]; exact keysX_nodup nd, dropV_keys kv z, (dropV_rel rr).chg oa⟩
          exact k.nx _ _ _ _ m2 (rc.setD (Rp.chg (g := gO f O) oa rv)) ((n2.kep r.ctx).trans fun y u no eq => ⟨by rw [upd_ne (fun z : y = a => no (z ▸ oa))]; exact eq, no⟩)
        | _ => exact m2.elim
      | _ => exact q.1.elim
    · exact q.elim
def dDel (i : Nat) (tk : DE) : DS := fun D ρ => match ρ[i]? with
  | some (some (.own x)) => tk ρ fun y => match x, y with
    | .dic ks ds, .str k => k ∈ ks ∧ D.nx (ρ.set i (some (.own (.dic (keysX ks k) (valsX ks ds k)))))
    | _, _ => False
  | _ => False
theorem vs_del {i : Nat} {x : PySem.Str} {p tpos : Pos} {tk : DE} (hi : X.N[i]? = some x) (hv : Vis X.env.scope x) (he : VE X e tk) (hd : (x == ("__debug__" : PySem.Str)) = false := by decide) (hcd : (x == ("__classdict__" : PySem.Str)) = false := by decide) :
    VS fr X (.Delete [.Subscript (.Name x p) e tpos] pos) (dDel i tk) :=
  ps_imp (ps_ddel (pe_var hi hv hd hcd) he) fun E σ H ⟨f, O, ρ, D, r, q, k⟩ => by
    unfold dDel at q
    split at q
    · next x' ei =>
      obtain ⟨w, ew, a, e1, oa, fa, oc⟩ := r.sl _ _ ei
      subst e1
      refine ⟨_, ew, f, O, ρ, _, r, q, fun yd yv H2 m2 n2 p2 => ?_⟩
      have r2 := r.nxt n2
      obtain ⟨w', ew', a', e1', oa', fa', oc'⟩ := r2.sl _ _ ei
      rw [ew] at ew'
      cases ew'; cases e1'
      split at m2
      · obtain ⟨kv, ha, nd, ek, rr⟩ := oc'
        subst ek
        refine ⟨a, kk kv, Sum.inr _, rfl, ha, p2.str_inv, by rw [val_isSome rr]; exact decide_eq_true m2.1, ?_⟩
        rw [dropK_kk]
        exact k.nx _ _ _ _ m2.2 (r2.chg ei ew ⟨dropV' kv _, upd_same, by rw [dropV_keys]; exact keysX_nodup nd, dropV_keys kv _, (dropV_rel rr).chg oa⟩) ((n2.kep r.ctx).trans fun y u no eq => ⟨by rw [upd_ne (fun z : y = a => no (z ▸ oa))]; exact eq, no⟩)
      · exact m2.elim
    · exact q.elim
end
end VL
/-! Dict comprehensions; walks over a dict that is locked meanwhile; enumerate, zip. -/
namespace VL
open PySem PySem.Spec PyProof.Rows L2 RX
section
variable {X : Cx} {pos : Pos}
def vDc (ti : DI) (g : DG) (tt : DT) (tk tv : DE) (vs : List Nat) : DE := fun ρ M => ti ρ fun ds => ∃ W : Nat → List PySem.Str → List Dt → Prop, W 0 [] [] ∧
  (∀ i d ks es, ds[i]? = some d → W i ks es → g d (wipeE ρ vs) fun ρ2 => tt ρ2 fun b => if b = true then tk ρ2 fun y => tv ρ2 fun z => match y with
    | .str k => ks.length < sizeLine ∧ W (i + 1) (keysP ks k) (valsP ks es k z)
    | _ => False
   else W (i + 1) ks es) ∧ ∀ ks es, W ds.length ks es → M (.dic ks es)
theorem dc_it {J : It} {n : Nat} {G : Hp → Prop} {Y : Nat → Hp → V → Hp → Prop} (w : Walk J n G Y) {g : TG} {tt : TT} {tk tv : TE} {vs : List Nat} {σ : L2.St} {H1 : Hp} {D : Addr} {Qd : Hp → Prop} (Pv : Nat → Hp → Prop) (h0 : Pv 0 (upd H1 D (.dK []))) (hG : ∀ i H, i ≤ n → Pv i H → G H)
    (hs : ∀ i x H H', i < n → Pv i H → Y i H x H' → g x (wipe σ vs) H' fun σ2 H2 => wipe σ2 vs = wipe σ vs ∧ tt σ2 H2 fun b H3 =>
      if b = true then tk σ2 H3 fun y H4 => tv σ2 H4 fun z H5 => ∃ kvs k, y = kV k ∧ H5 D = some (.dK kvs) ∧ kvs.length < sizeLine ∧ Pv (i + 1) (upd H5 D (.dK (putK kvs k z))) else Pv (i + 1) H3) (hd : ∀ H, Pv n H → Qd H) :
    ∃ W : Nat → Nat → Hp → Prop, (∃ m, W 0 m (upd H1 D (.dK []))) ∧ ∀ i m H, W i m H →
      (J.stop i H ∧ Qd H) ∨ (J.go i H ∧ ∃ Nx : Hp → Prop, (∀ H', Nx H' → ∃ m', m' < m ∧ W (i + 1) m' H') ∧ ∀ x H', J.yld i H x H' → g x (wipe σ vs) H' fun σ2 H2 => wipe σ2 vs = wipe σ vs ∧ tt σ2 H2 fun b H3 =>
        if b = true then tk σ2 H3 fun y H4 => tv σ2 H4 fun z H5 => ∃ kvs k, y = kV k ∧ H5 D = some (.dK kvs) ∧ kvs.length < sizeLine ∧ Nx (upd H5 D (.dK (putK kvs k z))) else Nx H3) := by
  refine ⟨fun i m H => m = n - i ∧ i ≤ n ∧ Pv i H, ⟨n, by simp, Nat.zero_le _, h0⟩, ?_⟩
  rintro i m H ⟨rfl, hi, p⟩
  have q := hG i H hi p
  by_cases hlt : i < n
  · refine .inr ⟨w.goes i H hlt q, Pv (i + 1), fun H' p' => ⟨n - (i + 1), by omega, rfl, hlt, p'⟩, fun x H' y => hs i x H H' hlt p (w.yields i H x H' hlt q y)⟩
  · have e : i = n := by omega
    subst e
    exact .inl ⟨w.stops H q, hd H p⟩
theorem vdc_body {g : DG} {tt : DT} {tk tv : DE} {vs : List Nat} {σ : L2.St} {Q : L2.VK} {f : Fr} {O : Addr → Prop} {ρ : Ev} {H1 : Hp} {J : It} {ds : List Dt} {M : Dt → Prop} (r1 : Rel f O H1 σ ρ) (go : Goes (gO f O) J ds H1) (W : Nat → List PySem.Str → List Dt → Prop) (w0 : W 0 [] [])
    (turn : ∀ i d ks es, ds[i]? = some d → W i ks es → g d (wipeE ρ vs) fun ρ2 => tt ρ2 fun b => if b = true then tk ρ2 fun y => tv ρ2 fun z => match y with
    | .str k => ks.length < sizeLine ∧ W (i + 1) (keysP ks k) (valsP ks es k z)
    | _ => False
   else W (i + 1) ks es) (done : ∀ ks es, W ds.length ks es → M (.dic ks es))
    (k : ∀ d a H', M d → Nxt (gO f O) H1 H' → H1 a = none → OwnC ((gO f O).and a) H' a d → Q (.ref a) H') :
    ∀ D, H1 D = none → ∃ W : Nat → Nat → Hp → Prop, (∃ m, W 0 m (upd H1 D (.dK []))) ∧ ∀ i m H, W i m H →
      (J.stop i H ∧ Q (.ref D) H) ∨ (J.go i H ∧ ∃ Nx : Hp → Prop, (∀ H', Nx H' → ∃ m', m' < m ∧ W (i + 1) m' H') ∧ ∀ x H', J.yld i H x H' → (lG vs g) x (L2.wipe σ vs) H' fun σ2 H2 => L2.wipe σ2 vs = L2.wipe σ vs ∧ (lT tt) σ2 H2 fun b H3 =>
        if b = true then (lE tk) σ2 H3 fun y H4 => (lE tv) σ2 H4 fun z H5 => ∃ kvs k, y = kV k ∧ H5 D = some (.dK kvs) ∧ kvs.length < sizeLine ∧ Nx (upd H5 D (.dK (putK kvs k z))) else Nx H3) := by
  intro D hD
  obtain ⟨G, Y, wk, hG, hY⟩ := go.ex
  have kD : Kep O H1 ((gO f O).and D).O (upd H1 D (.dK [])) := kep_new r1 (.new r1.ctx hD) hD
  have fD : f.H D = none := r1.none_of hD
  have ap := r1.fresh_ap hD
  have oD : ((gO f O).and D).O D := .inr rfl
  refine dc_it wk (fun i Hc => ∃ es kv, Hc D = some (.dK (kk kv)) ∧ (kv.map (·.1)).Nodup ∧ RpAll ((gO f O).and D) Hc (kv.map (·.2)) es ∧ W i (kv.map (·.1)) es ∧ Rel f ((gO f O).and D).O Hc σ ρ ∧ Nxt (gO f O) H1 Hc ∧ Kep O H1 ((gO f O).and D).O Hc) ⟨[], [], upd_same, List.nodup_nil, .nil, w0, r1.and hD, .new r1.ctx hD, kD⟩ ?_ ?_ ?_
  · rintro i Hc _ ⟨es, kv, hd, nd, ra, w, rr, nn, kp⟩
    exact hG _ _ kp
  · rintro i x Hc H2 hi ⟨es, kv, hd, nd, ra, w, rr, nn, kp⟩ y
    obtain ⟨d, hdi, n2, p2⟩ := hY i Hc x H2 _ kp rr.ctx y
    have rw2 := (rr.nxt n2).wipe vs
    refine ⟨f, _, wipeE ρ vs, _, d, rw2, p2, turn i d _ es hdi w, fun ρ2 σ2 m2 r2 s2 => ⟨s2.wipe, f, _, ρ2, _, r2, m2, fun b H3 m3 n3 => ?_⟩⟩
    have n23 := n2.trans n3
    have hd3 : H3 D = some (.dK (kk kv)) := n23.c.app D _ (r1.nb fD) hd
    have lift : ∀ {Hx : Hp}, Nxt ((gO f O).and D) Hc Hx → Nxt (gO f O) H1 Hx := fun nx => nn.trans ⟨nx.c, nx.bag⟩
    cases b with
    | false => exact ⟨es, kv, hd3, nd, ra.nxt rr.ctx n23, m3, rr.nxt n23, lift n23, kp.trans (n23.kep rr.ctx)⟩
    | true =>
      refine ⟨f, _, ρ2, _, r2.nxt n3, m3, fun yd yv H4 m4 n4 p4 => ?_⟩
      refine ⟨f, _, ρ2, _, (r2.nxt n3).nxt n4, m4, fun zd zv H5 m5 n5 p5 => ?_⟩
      cases yd with
      | str kx =>
        obtain ⟨sz, w5⟩ := m5
        have n25 := (n23.trans n4).trans n5
        have hd5 : H5 D = some (.dK (kk kv)) := n25.c.app D _ (r1.nb fD) hd
        have ra5 := ra.nxt rr.ctx n25
        refine ⟨kk kv, Sum.inr kx, p4.str_inv, hd5, by rw [kk_len]; simpa using sz, ?_⟩
        rw [putK_kk]
        refine ⟨_, putV' kv kx zv, upd_same, by rw [putV_keys]; exact keysP_nodup nd, (putV_rel p5 ra5).chg oD, by rw [putV_keys]; exact w5, (rr.nxt n25).put oD fD ap, ?_, ?_⟩
        · have n14 := lift n25
          refine ⟨⟨fun a o ne e => ?_, fun x y z l e => ?_⟩, ((rr.nxt n25).put oD fD ap).ctx.bag⟩
          · have := n14.c.app a o ne e
            rw [upd_ne (fun z => by rw [z, hD] at e; cases e)]
            exact this
          · obtain ⟨x', y', z', e'⟩ := n14.c.fo x y z l e
            exact ⟨x', y', z', by rw [upd_ne (r1.nb fD).symm]; exact e'⟩
        · intro a o no e
          obtain ⟨e1, e2⟩ := kp a o no e
          exact ⟨by rw [upd_ne (fun z => e2 (.inr z))]; exact n25.c.app a o (fun z => no (z ▸ r1.ctx.ob)) e1, e2⟩
      | _ => exact m5.elim
  · rintro Hc ⟨es, kv, hd, nd, ra, w, rr, nn, kp⟩
    exact k _ _ _ (done _ es w) nn hD ⟨kv, hd, nd, rfl, ra⟩
theorem vdc_lift {ti : DI} {g : DG} {tt : DT} {tk tv : DE} {vs : List Nat} {σ : L2.St} {H : Hp} {Q : L2.VK} (h : lF (vDc ti g tt tk tv vs) σ H Q) : tDc (lI ti) (lG vs g) (lT tt) (lE tk) (lE tv) vs σ H Q := by
  obtain ⟨f, O, ρ, M, r, q, k⟩ := h
  exact ⟨f, O, ρ, _, r, q, fun ds J H1 ⟨W, w0, turn, done⟩ n go => vdc_body (r.nxt n) go W w0 turn done fun d a H' m n' na oc => k d a H' m (n.trans n') (none_before n na) oc⟩
theorem vf_dc {kx vx tg iter : Expr} {ifs : List Expr} {scope : Scope} {own : List (PySem.Str × Nat)} {ti : DI} {g : DG} {tt : DT} {tk tv : DE} (hc : X.calm = true) (hN : X.N.Nodup) (hi : VI X tg iter ti) (ok : BlkOk X.N X.env.scope scope own)
    (hg : ∀ (s : Shared) (H : Hp) (C : Addr) (cl : List (PySem.Str × Addr)) (fp : List Addr), VG (X.blk s H scope (compEnvC scope cl C X.env) fp) (own.map (·.2)) tg g) (ht : ∀ (s : Shared) (H : Hp) (C : Addr) (cl : List (PySem.Str × Addr)) (fp : List Addr), VTs (X.blk s H scope (compEnvC scope cl C X.env) fp) ifs tt)
    (hk : ∀ (s : Shared) (H : Hp) (C : Addr) (cl : List (PySem.Str × Addr)) (fp : List Addr), VE (X.blk s H scope (compEnvC scope cl C X.env) fp) kx tk)
    (he : ∀ (s : Shared) (H : Hp) (C : Addr) (cl : List (PySem.Str × Addr)) (fp : List Addr), VE (X.blk s H scope (compEnvC scope cl C X.env) fp) vx tv) (hs : ∀ x, foldedSetIterable iter X.env x = pure x := by intro _; rfl) :
    VF X (.DictComp kx vx [⟨tg, iter, ifs, 0⟩] scope pos) (vDc ti g tt tk tv (own.map (·.2))) := pe_imp (pe_dc hc hN hi ok hg ht hk he hs) fun _ _ _ h => vdc_lift h
end
/-! ### a dict that is locked -/
section
variable {g : Geo} {H : Hp} {d : Addr} {kvs : List (L2.Key × V)} {u : HO}
/-- locked or freed: the same data -/
theorem Rp.sw {H' : Hp} (k : ∀ a o, a ≠ d → H a = some o → H' a = some o) (h1 : Rd H d (.dK kvs)) (h2 : Rd H' d (.dK kvs)) : ∀ (x : Dt) (v : V), Rp g H v x → Rp g H' v x := by
  have nl : ∀ {a xs}, H a = some (.lst xs) → a ≠ d := fun e z => by subst z; exact rd_not h1 e (fun _ z => nomatch z) (fun z => nomatch z)
  have nt : ∀ {a xs}, H a = some (.tup xs) → a ≠ d := fun e z => by subst z; exact rd_not h1 e (fun _ z => nomatch z) (fun z => nomatch z)
  have nf : ∀ {a o xs}, H a = some (.frz o (.tup xs)) → a ≠ d := fun e z => by subst z; rcases h1 with h1 | ⟨_, h1⟩ <;> (rw [e] at h1; cases h1)
  intro x v h
  induction h using Rp.rec (motive_2 := fun vs ds _ => RpAll g H' vs ds) with
  | non => exact .non
  | bl c => exact .bl c
  | int i => exact .int i
  | str x => exact .str x
  | lst n h t ih => exact .lst n (k _ _ (nl h) h) ih
  | tup n h t ih => exact .tup n (k _ _ (nt h) h) ih
  | fup n h e t ih => exact .fup n (k _ _ (nf h) h) e ih
  | @dic a ks ds n h nd t ih =>
    by_cases z : a = d
    · subst z
      have e : kk ks = kvs := by
        rcases h with h | ⟨o, h⟩
        · rcases h1 with h1 | ⟨o', h1⟩
          · rw [h] at h1; exact HO.dK.inj (Option.some.inj h1)
          · rw [h] at h1; cases h1
        · rcases h1 with h1 | ⟨o', h1⟩
          · rw [h] at h1; cases h1
          · rw [h] at h1; exact HO.dK.inj (HO.frz.inj (Option.some.inj h1)).2
      exact .dic n (by rw [e]; exact h2) nd ih
    · exact .dic n (rd_map (fun o h => k _ o z h) h) nd ih
  | nil => exact .nil
  | cons _ _ a t => exact .cons a t
theorem RpAll.sw {H' : Hp} (k : ∀ a o, a ≠ d → H a = some o → H' a = some o) (h1 : Rd H d (.dK kvs)) (h2 : Rd H' d (.dK kvs)) : ∀ {xs : List Dt} {vs : List V}, RpAll g H vs xs → RpAll g H' vs xs
  | _, _, .nil => .nil
  | _, _, .cons a t => .cons (Rp.sw k h1 h2 _ _ a) (t.sw k h1 h2)
theorem OwnC.sw {H' : Hp} {a : Addr} {x : Dt} (k : ∀ a o, a ≠ d → H a = some o → H' a = some o) (h1 : Rd H d (.dK kvs)) (h2 : Rd H' d (.dK kvs)) (n : a ≠ d) (h : OwnC g H a x) : OwnC g H' a x := by
  cases x with
  | lst ds => obtain ⟨xs, e, r⟩ := h; exact ⟨xs, k _ _ n e, r.sw k h1 h2⟩
  | dic ks ds => obtain ⟨kv, e, nd, ek, r⟩ := h; exact ⟨kv, k _ _ n e, nd, ek, r.sw k h1 h2⟩
  | _ => exact h.elim
end
/-- the frame, its dict at d locked as well -/
noncomputable def Fr.lock (f : Fr) (d : Addr) (o : HO) : Fr := ⟨f.g, fun a => if a = d then (if f.H d = none then none else some o) else f.H a⟩
section
variable {f : Fr} {O : Addr → Prop} {H : Hp} {σ : L2.St} {ρ : Ev} {d : Addr} {kvs : List (L2.Key × V)} {o1 o2 : HO}
theorem Rel.sw (r : Rel f O H σ ρ) (nO : ¬ O d) (h0 : f.H d = none ∨ True) (hd : H d = some o1) (h1 : Rd H d (.dK kvs)) (h2 : Rd (upd H d o2) d (.dK kvs)) : Rel (f.lock d o2) O (upd H d o2) σ ρ := by
  have nb : d ≠ f.g.b := fun z => nO (z ▸ r.ctx.ob)
  have keep : ∀ a o, a ≠ d → H a = some o → upd H d o2 a = some o := fun a o n e => by rw [upd_ne n]; exact e
  obtain ⟨l, cs, ow, hl, lb⟩ := r.ctx.bag.own
  have dl : d ≠ l := fun z => nO (z ▸ r.ctx.ol l ow)
  obtain ⟨bg, ow'⟩ := Bag.set (o := o2) r.ctx.bag ow nb dl
  have fH : ∀ a, a ≠ d → (f.lock d o2).H a = f.H a := fun a n => by show (if a = d then _ else _) = _; rw [if_neg n]
  have fd : ∀ o, (f.lock d o2).H d = some o → o = o2 ∧ f.H d ≠ none := fun o e => by
    have e' : (if d = d then (if f.H d = none then none else some o2) else f.H d) = some o := e
    rw [if_pos rfl] at e'
    split at e'
    · cases e'
    · next n => exact ⟨(Option.some.inj e').symm, n⟩
  obtain ⟨l0, cs0, ow0, hl0, lb0⟩ := r.ctx0.bag.own
  have e0 : l0 = l := Own.fn (ow0.chb r.frm) ow
  subst e0
  have bg0 : Bag (f.lock d o2).H f.g.b := by
    obtain ⟨n, m, k, l', cs', hb, hl', rest⟩ := r.ctx0.bag
    have : l' = l0 := Own.fn ⟨_, _, _, hb⟩ ow0
    subst this
    exact ⟨n, m, k, l', cs', by rw [fH _ nb.symm]; exact hb, by rw [fH _ dl.symm]; exact hl', rest⟩
  refine ⟨r.len, ⟨r.ctx.ob, bg, fun x hx => ?_, fun l' hl' => ?_⟩, ⟨r.ctx0.ob, bg0, fun x hx => ?_, fun l' hl' => ?_⟩, ⟨fun x u n e => ?_, fun p q s m e => ?_⟩, r.sub, fun i w e => ?_, r.apart⟩
  · obtain ⟨u, hu⟩ := r.ctx.al x hx
    exact ⟨u, keep _ _ (fun z => nO (z ▸ hx)) hu⟩
  · rw [Own.fn hl' ow']
    exact r.ctx.ol _ ow
  · obtain ⟨u, hu⟩ := r.ctx0.al x hx
    exact ⟨u, by rw [fH _ (fun z => nO (z ▸ r.sub x hx))]; exact hu⟩
  · obtain ⟨x, y, z, e⟩ := hl'
    have e' : f.H f.g.b = some (.lst [x, y, z, .ref l']) := by rw [← fH _ nb.symm]; exact e
    exact r.ctx0.ol l' ⟨x, y, z, e'⟩
  · by_cases z : x = d
    · subst z
      rw [(fd u e).1]
      exact upd_same
    · rw [fH _ z] at e
      exact keep _ _ z (r.frm.app x u n e)
  · have e' : f.H f.g.b = some (.lst [p, q, s, m]) := by rw [← fH _ nb.symm]; exact e
    obtain ⟨p', q', s', e2⟩ := r.frm.fo p q s m e'
    exact ⟨p', q', s', keep _ _ nb.symm e2⟩
  · obtain ⟨v, ev, q⟩ := r.sl i w e
    refine ⟨v, ev, ?_⟩
    cases w with
    | d x => exact Rp.sw keep h1 h2 _ _ q
    | own x =>
      obtain ⟨a, q1, q2, q3, q4⟩ := q
      have ad : a ≠ d := fun z => nO (z ▸ q2)
      exact ⟨a, q1, q2, by rw [fH _ ad]; exact q3, q4.sw keep h1 h2 ad⟩
    | ro x =>
      obtain ⟨a, q1, q2, q3, q4⟩ := q
      have ad : a ≠ d := fun z => nO (z ▸ r.sub a q3)
      exact ⟨a, q1, q2, q3, q4.sw keep h1 h2 ad⟩
    | bag => exact q
end
section
variable {g : Geo} {H : Hp} {d : Addr}
theorem goes_keys {o : Obj} {kv : List (PySem.Str × V)} (nd : ¬ g.O d) (h : H d = some (.frz o (.dK (kk kv)))) : Goes g (Itk d o (kk kv)) ((kv.map (·.1)).map Dt.str) H :=
  ⟨fun H => H d = some (.frz o (.dK (kk kv))), _, by rw [List.length_map, List.length_map, ← kk_len]; exact walk_keys, fun O' H' kp => (kp d _ nd h).1, fun i H2 x H2' O2 kp c y => by
    obtain ⟨rfl, k, v, hk, rfl⟩ := y
    unfold kk at hk
    rw [List.getElem?_map] at hk
    obtain ⟨p, hp, e⟩ := Option.map_eq_some_iff.mp hk
    cases e
    exact ⟨.str p.1, by rw [List.getElem?_map, List.getElem?_map, hp]; rfl, .refl c, .str _⟩⟩
end
/-- behind a walk over a dict that was locked meanwhile -/
theorem unlock {f : Fr} {O : Addr → Prop} {H H' : Hp} {σ : L2.St} {ρ : Ev} {d : Addr} {kvs : List (L2.Key × V)} {od : Obj} (r : Rel f O H σ ρ) (nO : ¬ O d) (hd : H d = some (.dK kvs)) (n : Nxt (gO f O) (upd H d (.frz od (.dK kvs))) H') :
    H' d = some (.frz od (.dK kvs)) ∧ Nxt (gO f O) H (upd H' d (.dK kvs)) := by
  have nb : d ≠ f.g.b := fun z => nO (z ▸ r.ctx.ob)
  have e1 : H' d = some (.frz od (.dK kvs)) := n.c.app d _ nb upd_same
  obtain ⟨l, cs, ow, hl, lb⟩ := r.ctx.bag.own
  have dl : d ≠ l := fun z => nO (z ▸ r.ctx.ol l ow)
  have ow1 : Own (upd H d (.frz od (.dK kvs))) f.g.b l := by obtain ⟨x, y, z, e⟩ := ow; exact ⟨x, y, z, by rw [upd_ne nb.symm]; exact e⟩
  obtain ⟨bg, _⟩ := Bag.set (o := .dK kvs) n.bag (ow1.chb n.c) nb dl
  refine ⟨e1, ⟨fun x u ne e => ?_, fun p q s m e => ?_⟩, bg⟩
  · by_cases z : x = d
    · subst z
      rw [hd] at e
      cases e
      exact upd_same
    · rw [upd_ne z]
      exact n.c.app x u ne (by rw [upd_ne z]; exact e)
  · obtain ⟨p', q', s', e'⟩ := n.c.fo p q s m (by rw [upd_ne nb.symm]; exact e)
    exact ⟨p', q', s', by rw [upd_ne nb.symm]; exact e'⟩
theorem pe_either {X : Cx} {e : Expr} {t u : TE} (h : PE X e t) (k : PE X e u) : PE X e (fun σ H Q => t σ H Q ∨ u σ H Q) := ⟨fun pins s σ H Q I q => q.elim (h.run pins s σ H Q I) (k.run pins s σ H Q I)⟩
def viKeys (i : Nat) : DI := fun ρ M => match ρ[i]? with
  | some (some (.d (.dic ks _))) => M (ks.map Dt.str)
  | _ => False
/-- a comprehension over a slot's dict -/
theorem lockK {f : Fr} {O : Addr → Prop} {H : Hp} {σ : L2.St} {ρ : Ev} {i : Nat} {ks : List PySem.Str} {ds : List Dt} {Q : L2.VK} {M : Dt → Prop} {B : L2.St → Hp → (It → L2.VK → Prop)} {T : TE} (hT : ∀ σ H Q, T σ H Q = (iKeys (tVar i)) σ H fun J H1 => B σ H1 J Q)
    (r : Rel f O H σ ρ) (e : ρ[i]? = some (some (.d (.dic ks ds)))) (k : ∀ d a H', M d → Nxt (gO f O) H H' → H a = none → OwnC ((gO f O).and a) H' a d → Q (.ref a) H')
    (body : ∀ (f' : Fr) (H1 : Hp) (J : It) (Q : L2.VK), Rel f' O H1 σ ρ → f'.g = f.g → Goes (gO f' O) J (ks.map Dt.str) H1 → (∀ d a H', M d → Nxt (gO f' O) H1 H' → H1 a = none → OwnC ((gO f' O).and a) H' a d → Q (.ref a) H') → B σ H1 J Q) :
    tLockE T σ H Q ∨ T σ H Q := by
  obtain ⟨v, ev, p⟩ := r.sl _ _ e
  obtain ⟨d, kv, e1, na, hd, nd, ek, ra⟩ := Rp.dic_inv p
  subst e1
  subst ek
  rcases hd with hd | ⟨o, hd⟩
  · refine .inl ⟨d, _, hd, trivial, fun od => ?_⟩
    rw [hT]
    have rs := r.sw (o2 := .frz od (.dK (kk kv))) na (.inr trivial) hd (.inl hd) (.inr ⟨od, upd_same⟩)
    refine ⟨_, ev, d, od, rfl, .inl ⟨_, upd_same, body _ _ _ _ rs rfl (goes_keys na upd_same) fun x a H' m n' na' oc => ?_⟩⟩
    obtain ⟨h1, h2⟩ := unlock r na hd n'
    have ad : a ≠ d := fun z => by rw [z, upd_same] at na'; cases na'
    refine ⟨h1, k x a _ m h2 (by rw [upd_ne ad] at na'; exact na') (oc.sw (fun y o z e => by rw [upd_ne z]; exact e) (.inr ⟨od, h1⟩) (.inl upd_same) ad)⟩
  · refine .inr ?_
    rw [hT]
    exact ⟨_, ev, d, o, rfl, .inl ⟨_, hd, body f H _ _ r rfl (goes_keys na hd) k⟩⟩
section
variable {X : Cx} {pos : Pos}
theorem vf_lcK {elt tg : Expr} {x : PySem.Str} {px : Pos} {i : Nat} {ifs : List Expr} {scope : Scope} {own : List (PySem.Str × Nat)} {g : DG} {tt : DT} {te : DE} (hc : X.calm = true) (hN : X.N.Nodup) (hi : X.N[i]? = some x) (hv : Vis X.env.scope x) (ok : BlkOk X.N X.env.scope scope own)
    (hg : ∀ (s : Shared) (H : Hp) (C : Addr) (cl : List (PySem.Str × Addr)) (fp : List Addr), VG (X.blk s H scope (compEnvC scope cl C X.env) fp) (own.map (·.2)) tg g) (ht : ∀ (s : Shared) (H : Hp) (C : Addr) (cl : List (PySem.Str × Addr)) (fp : List Addr), VTs (X.blk s H scope (compEnvC scope cl C X.env) fp) ifs tt)
    (he : ∀ (s : Shared) (H : Hp) (C : Addr) (cl : List (PySem.Str × Addr)) (fp : List Addr), VE (X.blk s H scope (compEnvC scope cl C X.env) fp) elt te) (hs : ∀ x', foldedSetIterable (.Name x px) X.env x' = pure x' := by intro _; rfl)
    (hd : (x == ("__debug__" : PySem.Str)) = false := by decide) (hcd : (x == ("__classdict__" : PySem.Str)) = false := by decide) :
    VF X (.ListComp elt [⟨tg, .Name x px, ifs, 0⟩] scope pos) (vLc (viKeys i) g tt te (own.map (·.2))) :=
  have b := pe_lc (pos := pos) hc hN (pi_keys (tg := tg) (pe_var (pos := px) hi hv hd hcd)) ok hg ht he hs
  pe_imp (pe_either (pe_lock b) b) fun σ H Q ⟨f, O, ρ, M, r, q, k⟩ => by
    unfold vLc viKeys at q
    split at q
    · next ks ds e =>
      obtain ⟨W, w0, turn, done⟩ := q
      exact lockK (B := fun σ H1 J Q => ∀ D, H1 D = none → ∃ W : Nat → Nat → Hp → Prop, (∃ m, W 0 m (upd H1 D (.lst []))) ∧ ∀ i m H, W i m H →
        (J.stop i H ∧ Q (.ref D) H) ∨ (J.go i H ∧ ∃ Nx : Hp → Prop, (∀ H', Nx H' → ∃ m', m' < m ∧ W (i + 1) m' H') ∧ ∀ x H', J.yld i H x H' → (lG (own.map (·.2)) g) x (L2.wipe σ (own.map (·.2))) H' fun σ2 H2 => L2.wipe σ2 (own.map (·.2)) = L2.wipe σ (own.map (·.2)) ∧ (lT tt) σ2 H2 fun b H3 =>
          if b = true then (lE te) σ2 H3 fun y H4 => ∃ acc, H4 D = some (.lst acc) ∧ acc.length < sizeLine ∧ Nx (upd H4 D (.lst (acc ++ [y]))) else Nx H3)) (fun _ _ _ => rfl) r e k
        fun f' H1 J Q r1 _ go k1 => vlc_body r1 go W w0 turn done k1
    · exact q.elim
theorem vf_dcK {kx vx tg : Expr} {x : PySem.Str} {px : Pos} {i : Nat} {ifs : List Expr} {scope : Scope} {own : List (PySem.Str × Nat)} {g : DG} {tt : DT} {tk tv : DE} (hc : X.calm = true) (hN : X.N.Nodup) (hi : X.N[i]? = some x) (hv : Vis X.env.scope x) (ok : BlkOk X.N X.env.scope scope own)
    (hg : ∀ (s : Shared) (H : Hp) (C : Addr) (cl : List (PySem.Str × Addr)) (fp : List Addr), VG (X.blk s H scope (compEnvC scope cl C X.env) fp) (own.map (·.2)) tg g) (ht : ∀ (s : Shared) (H : Hp) (C : Addr) (cl : List (PySem.Str × Addr)) (fp : List Addr), VTs (X.blk s H scope (compEnvC scope cl C X.env) fp) ifs tt)
    (hk : ∀ (s : Shared) (H : Hp) (C : Addr) (cl : List (PySem.Str × Addr)) (fp : List Addr), VE (X.blk s H scope (compEnvC scope cl C X.env) fp) kx tk)
    (he : ∀ (s : Shared) (H : Hp) (C : Addr) (cl : List (PySem.Str × Addr)) (fp : List Addr), VE (X.blk s H scope (compEnvC scope cl C X.env) fp) vx tv) (hs : ∀ x', foldedSetIterable (.Name x px) X.env x' = pure x' := by intro _; rfl)
    (hd : (x == ("__debug__" : PySem.Str)) = false := by decide) (hcd : (x == ("__classdict__" : PySem.Str)) = false := by decide) :
    VF X (.DictComp kx vx [⟨tg, .Name x px, ifs, 0⟩] scope pos) (vDc (viKeys i) g tt tk tv (own.map (·.2))) :=
  have b := pe_dc (pos := pos) hc hN (pi_keys (tg := tg) (pe_var (pos := px) hi hv hd hcd)) ok hg ht hk he hs
  pe_imp (pe_either (pe_lock b) b) fun σ H Q ⟨f, O, ρ, M, r, q, k⟩ => by
    unfold vDc viKeys at q
    split at q
    · next ks ds e =>
      obtain ⟨W, w0, turn, done⟩ := q
      exact lockK (B := fun σ H1 J Q => ∀ D, H1 D = none → ∃ W : Nat → Nat → Hp → Prop, (∃ m, W 0 m (upd H1 D (.dK []))) ∧ ∀ i m H, W i m H →
        (J.stop i H ∧ Q (.ref D) H) ∨ (J.go i H ∧ ∃ Nx : Hp → Prop, (∀ H', Nx H' → ∃ m', m' < m ∧ W (i + 1) m' H') ∧ ∀ x H', J.yld i H x H' → (lG (own.map (·.2)) g) x (L2.wipe σ (own.map (·.2))) H' fun σ2 H2 => L2.wipe σ2 (own.map (·.2)) = L2.wipe σ (own.map (·.2)) ∧ (lT tt) σ2 H2 fun b H3 =>
          if b = true then (lE tk) σ2 H3 fun y H4 => (lE tv) σ2 H4 fun z H5 => ∃ kvs k, y = kV k ∧ H5 D = some (.dK kvs) ∧ kvs.length < sizeLine ∧ Nx (upd H5 D (.dK (putK kvs k z))) else Nx H3)) (fun _ _ _ => rfl) r e k
        fun f' H1 J Q r1 _ go k1 => vdc_body r1 go W w0 turn done k1
    · exact q.elim
/-! ### enumerate, zip of lists -/
def pairD (a b : Dt) : Dt := .tup [a, b]
theorem goes_pair {g : Geo} {H : Hp} {J : It} {G : Hp → Prop} {xs ys : Nat → Option V} {ds : List Dt} (w : Walk J ds.length G (YPair xs ys)) (hG : ∀ O' H', Kep g.O H O' H' → G H')
    (hp : ∀ i x y O2 H2, Kep g.O H O2 H2 → Ctx ⟨O2, g.b⟩ H2 → xs i = some x → ys i = some y → ∃ d e, ds[i]? = some (.tup [d, e]) ∧ Rp ⟨O2, g.b⟩ H2 x d ∧ Rp ⟨O2, g.b⟩ H2 y e) : Goes g J ds H :=
  ⟨G, _, w, hG, fun i H2 x H2' O2 kp c y => by
    obtain ⟨T, a, b, rfl, nT, rfl, hx, hy⟩ := y
    obtain ⟨d, e, hd, p1, p2⟩ := hp i a b O2 H2 kp c hx hy
    have n : Nxt ⟨O2, g.b⟩ H2 (upd H2 T (.tup [a, b])) := .new c nT
    exact ⟨_, hd, n, .tup (new_rp c nT) upd_same (.cons (p1.nxt c n) (.cons (p2.nxt c n) .nil))⟩⟩
def enumD (ds : List Dt) : List Dt := List.zipWith (fun i d => .tup [.int (i : Nat), d]) (List.range ds.length) ds
theorem enumD_len (ds : List Dt) : (enumD ds).length = ds.length := by unfold enumD; simp
theorem enumD_at {ds : List Dt} {i : Nat} {d : Dt} (h : ds[i]? = some d) : (enumD ds)[i]? = some (.tup [.int (i : Nat), d]) := by
  unfold enumD
  have l : i < ds.length := (List.getElem?_eq_some_iff.mp h).1
  rw [List.getElem?_zipWith, List.getElem?_range l, h]
def viEnum (t : DE) : DI := fun ρ M => t ρ fun d => match d with
  | .lst ds => M (enumD ds)
  | _ => False
theorem vi_enum {e : Expr} {t : DE} {p tpos : Pos} {elts : List Expr} {kk' : Nat} (hg : Gl X "enumerate") (hm : X.mg "enumerate" = none) (ha : VE X e t) (hs : starEach [e] X.env = [(false, eval e X.env)] := by rfl) (hs' : starEach [e] X.env = (false, eval e X.env) :: starEach [] X.env := by rfl) :
    VI X (.Tuple elts kk' tpos) (.Call (.Name "enumerate" p) [e] [] pos) (viEnum t) :=
  pi_imp (pi_enum hg hm (pa_cons ha pa_nil hs') hs) fun σ H R ⟨f, O, ρ, M, r, q, k⟩ => ⟨f, O, ρ, _, r, q, fun d v H1 m n p => by
    cases d with
    | lst ds =>
      obtain ⟨a, xs, e, na, ha, ra⟩ := p.lst_inv
      refine ⟨a, xs, by rw [e], .inl (.inl ha), k _ _ _ m n (goes_pair (G := fun H => SqL X.K H a xs) (by rw [enumD_len, ← ra.len]; exact walk_enum) (fun O' H' kp => .inl (.inl (kp a _ na ha).1)) fun i x y O2 H2 kp c hx hy => ?_)⟩
      cases hx
      obtain ⟨d, hd, p2⟩ := ra.gt hy
      exact ⟨_, d, enumD_at hd, .int _, Rp.mono (fun a o n e => kp a o n e) _ _ p2⟩
    | _ => exact m.elim⟩
def zipD (ds es : List Dt) : List Dt := List.zipWith (fun d e => .tup [d, e]) ds es
def viZip (t : DL) : DI := fun ρ M => t ρ fun ds => match ds with
  | [.lst ds, .lst es] => M (zipD ds es)
  | _ => False
theorem zipD_at {ds es : List Dt} {i : Nat} {d e : Dt} (h : ds[i]? = some d) (k : es[i]? = some e) : (zipD ds es)[i]? = some (.tup [d, e]) := by
  unfold zipD
  rw [List.getElem?_zipWith, h, k]
theorem vi_zip {a b : Expr} {t : DL} {p pos' tpos : Pos} {elts : List Expr} {kk' : Nat} (hg : Gl X "zip") (hm : X.mg "zip" = none) (ha : VLs X [a, b] t)
    (hs : starEach [a, b] X.env = (false, eval a X.env) :: starEach [b] X.env := by rfl) (hpl : (backTo pos' (starEach [b] X.env)).any (·.1) = false := by rfl) :
    VI X (.Tuple elts kk' tpos) (.Call (.Name "zip" p) [a, b] [] pos') (viZip t) :=
  pi_imp (pi_zip hg hm ha hs hpl) fun σ H R ⟨f, O, ρ, M, r, q, k⟩ => ⟨f, O, ρ, _, r, q, fun ds vs H1 m n p => by
    split at m
    · cases p with
      | cons p1 p2 =>
        cases p2 with
        | cons p2 p3 =>
          cases p3
          obtain ⟨a, xs, e, na, ha, ra⟩ := p1.lst_inv
          obtain ⟨b, ys, e2, nb, hb, rb⟩ := p2.lst_inv
          subst e; subst e2
          refine ⟨a, b, xs, ys, rfl, .inl (.inl ha), .inl (.inl hb), k _ _ _ m n (goes_pair (G := fun H => SqL X.K H a xs ∧ SqL X.K H b ys) (walk_zip (by unfold zipD; rw [List.length_zipWith, ra.len, rb.len])) (fun O' H' kp => ⟨.inl (.inl (kp a _ na ha).1), .inl (.inl (kp b _ nb hb).1)⟩) fun i x y O2 H2 kp c hx hy => ?_)⟩
          obtain ⟨d, hd, p2⟩ := ra.gt hx
          obtain ⟨e, he, p3⟩ := rb.gt hy
          exact ⟨d, e, zipD_at hd he, Rp.mono (fun a o n e => kp a o n e) _ _ p2, Rp.mono (fun a o n e => kp a o n e) _ _ p3⟩
    · exact m.elim⟩
end
end VL
/-! Further pieces: - x, and/or of truths, chains, {}, truth of values, pairs of names. -/
namespace VL
open PySem PySem.Spec PyProof.Rows L2 RX
section
variable {X : Cx} {fr : Bool} {a b c e : Expr} {rest : List Expr} {pos : Pos}
theorem ve_v (i : Nat) {x : PySem.Str} {pos : Pos} (hN : X.N[i]? = some x := by rfl) (hv : Vis X.env.scope x := by first | exact Or.inl rfl | exact Or.inr (Or.inl rfl) | exact Or.inr (Or.inr rfl)) (hd : (x == ("__debug__" : PySem.Str)) = false := by decide)
    (hcd : (x == ("__classdict__" : PySem.Str)) = false := by decide) : VE X (.Name x pos) (vVar i) := ve_var hN hv hd hcd
theorem vc_v (i : Nat) {x : PySem.Str} {pos : Pos} (hN : X.N[i]? = some x := by rfl) (hv : Vis X.env.scope x := by first | exact Or.inl rfl | exact Or.inr (Or.inl rfl) | exact Or.inr (Or.inr rfl)) (hd : (x == ("__debug__" : PySem.Str)) = false := by decide)
    (hcd : (x == ("__classdict__" : PySem.Str)) = false := by decide) : VC X (.Name x pos) (vVarC i) := vc_var hN hv hd hcd
theorem va_bag {es : List Expr} (i : Nat) {x : PySem.Str} {u : DA} {pos : Pos} (hr : VA X es u) (hN : X.N[i]? = some x := by rfl) (hv : Vis X.env.scope x := by first | exact Or.inl rfl | exact Or.inr (Or.inl rfl) | exact Or.inr (Or.inr rfl)) (hd : (x == ("__debug__" : PySem.Str)) = false := by decide) (hcd : (x == ("__classdict__" : PySem.Str)) = false := by decide)
    (hs : starEach (.Name x pos :: es) X.env = (false, eval (.Name x pos) X.env) :: starEach es X.env := by rfl) : VA X (.Name x pos :: es) (vaB i u) := va_b hN hv hr hd hcd hs
def negD : D1
  | .int i, M => M (.int (-i))
  | _, _ => False
theorem vun_neg : VUn X (unaryOp .USub) negD := by
  intro pins s σ H x v Q I rx ⟨g, d, M, c, h, q, k⟩
  cases d <;> simp only [negD] at q <;> try exact q.elim
  exact un_neg pins s σ H x v Q I rx ⟨_, h.int, k _ _ _ q (.refl c) (.int _)⟩
def vAndV (t u : DE) : DE := fun ρ M => t ρ fun d => match d with
  | .bl c => if c = true then u ρ M else M (.bl false)
  | _ => False
def vOrV (t u : DE) : DE := fun ρ M => t ρ fun d => match d with
  | .bl c => if c = true then M (.bl true) else u ρ M
  | _ => False
theorem ve_and {t u : DE} (h : VE X a t) (k : VE X (.BoolOp .And (b :: rest) pos) u) : VE X (.BoolOp .And (a :: b :: rest) pos) (vAndV t u) :=
  pe_imp (pe_and h k) fun σ H Q ⟨f, O, ρ, M, r, q, k⟩ => ⟨f, O, ρ, _, r, q, fun d v H1 m n p => by
    cases d with
    | bl c =>
      refine ⟨c, p.bl_inv, ?_⟩
      cases c with
      | true => exact ⟨f, O, ρ, _, r.nxt n, m, fun d v H2 m2 n2 p2 => k _ _ _ m2 (n.trans n2) p2⟩
      | false => exact k _ _ _ m n (.bl _)
    | _ => exact m.elim⟩
theorem ve_or {t u : DE} (h : VE X a t) (k : VE X (.BoolOp .Or (b :: rest) pos) u) : VE X (.BoolOp .Or (a :: b :: rest) pos) (vOrV t u) :=
  pe_imp (pe_or h k) fun σ H Q ⟨f, O, ρ, M, r, q, k⟩ => ⟨f, O, ρ, _, r, q, fun d v H1 m n p => by
    cases d with
    | bl c =>
      refine ⟨c, p.bl_inv, ?_⟩
      cases c with
      | false => exact ⟨f, O, ρ, _, r.nxt n, m, fun d v H2 m2 n2 p2 => k _ _ _ m2 (n.trans n2) p2⟩
      | true => exact k _ _ _ m n (.bl _)
    | _ => exact m.elim⟩
theorem ve_and1 {t : DE} (h : VE X a t) : VE X (.BoolOp .And [a] pos) t := pe_one h
theorem ve_or1 {t : DE} (h : VE X a t) : VE X (.BoolOp .Or [a] pos) t := pe_one h
def vNotV (t : DE) : DE := fun ρ M => t ρ fun d => match d with
  | .bl c => M (.bl (!c))
  | _ => False
theorem ve_not {t : DE} (h : VE X a t) : VE X (.UnaryOp .Not a pos) (vNotV t) :=
  pe_imp (pe_not h) fun σ H Q ⟨f, O, ρ, M, r, q, k⟩ => ⟨f, O, ρ, _, r, q, fun d v H1 m n p => by
    cases d with
    | bl c => exact ⟨c, p.bl_inv, k _ _ _ m n (.bl _)⟩
    | _ => exact m.elim⟩
/-- a < b < c -/
def vChain (d d' : D2) (t u w : DE) : DE := fun ρ M => t ρ fun x => u ρ fun y => d x y fun z => match z with
  | .bl k => if k = true then w ρ fun z' => d' y z' M else M (.bl false)
  | _ => False
theorem vchain_lift {op op' : CmpOp} {d d' : D2} {t u w : DE} {σ : L2.St} {H : Hp} {Q : L2.VK} (h : lE (vChain d d' t u w) σ H Q) :
    tChain (fun x y H Q => ∃ g d1 d2 M, Ctx g H ∧ Rpc g H x d1 ∧ Rpc g H y d2 ∧ d d1 d2 M ∧ ∀ d v H', M d → Nxt g H H' → Rp g H' v d → Q v H')
      (fun x y H Q => ∃ g d1 d2 M, Ctx g H ∧ Rpc g H x d1 ∧ Rpc g H y d2 ∧ d' d1 d2 M ∧ ∀ d v H', M d → Nxt g H H' → Rp g H' v d → Q v H') (lC t) (lC u) (lC w) σ H Q := by
  obtain ⟨f, O, ρ, M, r, q, k⟩ := h
  refine ⟨f, O, ρ, _, r, q, fun d1 v1 H1 m1 n1 p1 => ⟨f, O, ρ, _, r.nxt n1, m1, fun d2 v2 H2 m2 n2 p2 => ⟨gO f O, d1, d2, _, ((r.nxt n1).nxt n2).ctx, p1.nxt (r.nxt n1).ctx n2, p2, m2, fun z zv H3 m3 n3 p3 => ?_⟩⟩⟩
  cases z with
  | bl k' =>
    have n13 := (n1.trans n2).trans n3
    refine ⟨k', p3.bl_inv, ?_⟩
    cases k' with
    | true =>
      exact ⟨f, O, ρ, _, r.nxt n13, m3, fun d4 v4 H4 m4 n4 p4 => ⟨gO f O, d2, d4, M, ((r.nxt n13).nxt n4).ctx, (p2.nxt ((r.nxt n1).nxt n2).ctx n3).nxt (r.nxt n13).ctx n4, p4, m4, fun d v H' m n p => k _ _ _ m ((n13.trans n4).trans n) p⟩⟩
    | false => exact k _ _ _ m3 n13 (.bl _)
  | _ => exact m3.elim
theorem ve_chain {op op' : CmpOp} {d d' : D2} {t u w : DE} (ho : VOp X (compareOp op) d) (ho' : VOp X (compareOp op') d') (ha : VC X a t) (hb : VC X b u) (hc : VC X c w)
    (hm : lastMarks [op, op'] [b, c] = false := by with_unfolding_all rfl) : VE X (.Compare a [op, op'] [b, c] pos) (vChain d d' t u w) :=
  pe_imp (pe_chain ho ho' ha hb hc hm) fun _ _ _ h => vchain_lift (op := op) (op' := op') h
theorem vt_chain {op op' : CmpOp} {d d' : D2} {t u w : DE} (ho : VOp X (compareOp op) d) (ho' : VOp X (compareOp op') d') (ha : VC X a t) (hb : VC X b u) (hc : VC X c w)
    (hm : lastMarks [op, op'] [b, c] = false := by with_unfolding_all rfl) : VT X (.Compare a [op, op'] [b, c] pos) (vBl (vChain d d' t u w)) :=
  pt_imp (pt_chain ho ho' ha hb hc hm) fun σ H Q ⟨f, O, ρ, M, r, q, k⟩ => by
    refine vchain_lift (op := op) (op' := op') ⟨f, O, ρ, _, r, q, fun d v H' m n p => ?_⟩
    cases d with
    | bl c => exact ⟨c, p.bl_inv, k _ _ m n⟩
    | _ => exact m.elim
def vNewD : DE := fun _ M => M (.dic [] [])
theorem vf_dnew : VF X (.Dict [] [] pos) vNewD := pe_imp pe_dnewK fun σ H Q ⟨f, O, ρ, M, r, q, k⟩ p np =>
  k _ _ _ q (.new r.ctx np) np ⟨[], upd_same, List.nodup_nil, rfl, .nil⟩
/-- the truth of a value -/
def truD : Dt → (Bool → Prop) → Prop
  | .non, M => M false
  | .bl b, M => M b
  | .int i, M => M (i != 0)
  | .str z, M => z.length ≤ sizeLine ∧ M ((z.length : Int) != 0)
  | .lst ds, M => M (!ds.isEmpty)
  | .tup ds, M => M (!ds.isEmpty)
  | _, _ => False
def vTru (t : DE) : DT := fun ρ M => t ρ fun d => truD d M
theorem vt_tru {t : DE} (ha : VC X a t) (he : ∀ whole, isTrue a X.env whole = (do let v ← whole; standAt a.pos; holding [v] (truthy v)) := by intro _; rfl) : VT X a (vTru t) :=
  pt_imp (pt_truth ha he) fun σ H Q ⟨f, O, ρ, M, r, q, k⟩ => ⟨f, O, ρ, _, r, q, fun d v H' m n p => by
    cases d with
    | non => have e := p.non; subst e; exact ⟨_, rfl, k _ _ m n⟩
    | bl b => have e := p.bl; subst e; exact ⟨_, rfl, k _ _ m n⟩
    | int i => have e := p.int; subst e; exact ⟨_, rfl, k _ _ m n⟩
    | str z => have e := p.str; subst e; exact ⟨_, ⟨m.1, rfl⟩, k _ _ m.2 n⟩
    | lst ds => obtain ⟨a, xs, e, ha, ra⟩ := p.lst; subst e; exact ⟨_, .inl ⟨xs, .inl (.inl ha), rfl⟩, by rw [isEmpty_rp ra]; exact k _ _ m n⟩
    | tup ds => obtain ⟨a, xs, e, ha, ra⟩ := p.tup; subst e; exact ⟨_, .inr (.inl ⟨xs, .inl (.inl ha), rfl⟩), by rw [isEmpty_rp ra]; exact k _ _ m n⟩
    | fup _ => exact m.elim
    | dic _ _ => exact m.elim⟩
/-! ### x, y = e1, e2 of plain local names; each a value, or a thing of the def's own -/
def lPar (t u : DE) (k1 k2 : Bool) : TA := fun σ H Q => ∃ (f : Fr) (O : Addr → Prop) (ρ : Ev) (M : Dt → Dt → Prop), Rel f O H σ ρ ∧ (t ρ fun d1 => u ρ fun d2 => M d1 d2) ∧ ∀ (d1 d2 : Dt) (v1 v2 : V) (H' : Hp), M d1 d2 → Nxt (gO f O) H H' →
  (match k1, k2 with
  | false, false => Rp (gO f O) H' v1 d1 ∧ Rp (gO f O) H' v2 d2
  | true, false => ∃ a, v1 = .ref a ∧ H a = none ∧ OwnC ((gO f O).and a) H' a d1 ∧ Rp ((gO f O).and a) H' v2 d2
  | false, true => ∃ a, v2 = .ref a ∧ H a = none ∧ OwnC ((gO f O).and a) H' a d2 ∧ Rp ((gO f O).and a) H' v1 d1
  | true, true => False) → Q [v1, v2] H'
theorem rp_and {g : Geo} {H H' : Hp} {a : Addr} {v : V} {d : Dt} (c : Ctx g H) (n : Nxt g H H') (na : H a = none) (r : Rp g H v d) : Rp (g.and a) H' v d :=
  Rp.mono (fun x u no e => ⟨n.c.app x u (fun z => no (z ▸ c.ob)) e, fun z => Or.elim (show g.O x ∨ x = a from z) no fun z => by rw [z, na] at e; cases e⟩) d v r
def dPar (i j : Nat) (k1 k2 : Bool) (t u : DE) : DS := fun D ρ => t ρ fun d1 => u ρ fun d2 => D.nx ((ρ.set i (some (if k1 = true then .own d1 else .d d1))).set j (some (if k2 = true then .own d2 else .d d2)))
theorem pa_EE {t u : DE} (ha : VE X a t) (hb : VE X b u) (h1 : starEach [a, b] X.env = (false, eval a X.env) :: starEach [b] X.env := by rfl) (h2 : starEach [b] X.env = (false, eval b X.env) :: starEach [] X.env := by rfl) : PA X [a, b] (lPar t u false false) :=
  pa_imp (pa_cons ha (pa_cons hb pa_nil h2) h1) fun σ H Q ⟨f, O, ρ, M, r, q, k⟩ => ⟨f, O, ρ, _, r, q, fun d1 v1 H1 m1 n1 p1 => ⟨f, O, ρ, _, r.nxt n1, m1, fun d2 v2 H2 m2 n2 p2 => k _ _ _ _ _ m2 (n1.trans n2) ⟨p1.nxt (r.nxt n1).ctx n2, p2⟩⟩⟩
theorem pa_EF {t u : DE} (ha : VE X a t) (hb : VF X b u) (h1 : starEach [a, b] X.env = (false, eval a X.env) :: starEach [b] X.env := by rfl) (h2 : starEach [b] X.env = (false, eval b X.env) :: starEach [] X.env := by rfl) : PA X [a, b] (lPar t u false true) :=
  pa_imp (pa_cons ha (pa_cons hb pa_nil h2) h1) fun σ H Q ⟨f, O, ρ, M, r, q, k⟩ => ⟨f, O, ρ, _, r, q, fun d1 v1 H1 m1 n1 p1 => ⟨f, O, ρ, _, r.nxt n1, m1, fun d2 a H2 m2 n2 na p2 => k _ _ _ _ _ m2 (n1.trans n2) ⟨a, rfl, none_before n1 na, p2, rp_and (r.nxt n1).ctx n2 na p1⟩⟩⟩
theorem pa_FE {t u : DE} (ha : VF X a t) (hb : VE X b u) (h1 : starEach [a, b] X.env = (false, eval a X.env) :: starEach [b] X.env := by rfl) (h2 : starEach [b] X.env = (false, eval b X.env) :: starEach [] X.env := by rfl) : PA X [a, b] (lPar t u true false) :=
  pa_imp (pa_cons ha (pa_cons hb pa_nil h2) h1) fun σ H Q ⟨f, O, ρ, M, r, q, k⟩ => ⟨f, O, ρ, _, r, q, fun d1 a H1 m1 n1 na p1 => by
    have fresh : f.H a = none := r.none_of na
    have ra : Rel f ((gO f O).and a).O H1 σ ρ := by
      have r1 := r.nxt n1
      obtain ⟨o, ho⟩ := p1.at_
      refine ⟨r1.len, r1.ctx.and ho, r1.ctx0, r1.frm, fun x hx => .inl (r1.sub x hx), fun i w e => ?_, r1.apart⟩
      obtain ⟨v, ev, q⟩ := r.sl i w e
      refine ⟨v, ev, ?_⟩
      cases w with
      | d x => exact rp_and r.ctx n1 na q
      | own x =>
        obtain ⟨c, e1, e2, e3, e4⟩ := q
        exact ⟨c, e1, .inl e2, e3, OwnC.mono (g := gO f O) (fun x u no e => ⟨n1.c.app x u (fun z => no (z ▸ r.ctx.ob)) e, fun z => Or.elim (show O x ∨ x = a from z) no fun z => by rw [z, na] at e; cases e⟩) (fun o e => n1.c.app _ _ (r.nb e3) e) e4⟩
      | ro x =>
        obtain ⟨c, e1, e2, e3, e4⟩ := q
        exact ⟨c, e1, e2, e3, OwnC.mono (g := gO f O) (fun x u no e => ⟨n1.c.app x u (fun z => no (z ▸ r.ctx.ob)) e, fun z => Or.elim (show O x ∨ x = a from z) no fun z => by rw [z, na] at e; cases e⟩) (fun o e => n1.c.app _ _ e2 e) e4⟩
      | bag => exact q
    have nb : a ≠ f.g.b := r.nb fresh
    exact ⟨f, _, ρ, _, ra, m1, fun d2 v2 H2 m2 n2 p2 => k _ _ _ _ _ m2 (n1.trans ⟨n2.c, n2.bag⟩) ⟨a, rfl, na, p1.nxt ra.ctx n2 nb, p2⟩⟩⟩
theorem vs_par {i j : Nat} {x y : PySem.Str} {k1 k2 : Bool} {t u : DE} {px py pt : Pos} {kt k2' pt2} (ha : PA X [a, b] (lPar t u k1 k2)) (hc : X.calm = true) (hN : X.N.Nodup) (hi : X.N[i]? = some x) (hj : X.N[j]? = some y) (hij : i ≠ j)
    (hx : X.env.scope.names.lookup x = some .local) (hy : X.env.scope.names.lookup y = some .local) 
    (hw : swappedStores [.Tuple [.Name x px, .Name y py] kt pt] (.Tuple [a, b] k2' pt2) X.env = pure (some [x, y]))
    (hs : swapsWithSole [.Tuple [.Name x px, .Name y py] kt pt] (.Tuple [a, b] k2' pt2) pos.line X.env = pure false := by rfl) :
    VS fr X (.Assign [.Tuple [.Name x px, .Name y py] kt pt] (.Tuple [a, b] k2' pt2) pos) (dPar i j k1 k2 t u) :=
  ps_imp (ps_par hc hN hi hj hij hx hy ha hw hs) fun E σ H ⟨f, O, ρ, D, r, q, k⟩ => ⟨f, O, ρ, _, r, q, fun d1 d2 v1 v2 H1 m n p => ⟨v1, v2, rfl, by
    cases k1 with
    | false => cases k2 with
      | false => exact k.nx _ _ _ _ m (((r.nxt n).setD p.1).setD p.2) (n.kep r.ctx)
      | true =>
        obtain ⟨a, e, na, oc, rp⟩ := p
        subst e
        have rr := r.setO (i := j) n na oc
        have := rr.setD (i := i) rp
        rw [List.set_comm _ _ (fun z => hij z.symm), List.set_comm _ _ (fun z => hij z.symm)] at this
        exact k.nx _ _ _ _ m this (kep_new r n na)
    | true => cases k2 with
      | false =>
        obtain ⟨a, e, na, oc, rp⟩ := p
        subst e
        exact k.nx _ _ _ _ m ((r.setO (i := i) n na oc).setD rp) (kep_new r n na)
      | true => exact p.elim⟩⟩
end
end VL
/-! Sets of texts: one is made of a list, its members come sorted. -/
namespace TX
open PySem PySem.Spec PyProof.Rows L2
/-- a text in a set, with its hash -/
def Gt (P : Program) (w : World) (e : Int × Value) : Prop := ∃ (x : PySem.Str) (tk : Tok), e.2 = .str x tk ∧ e.1 = (PySem.strKind P w).hash x
def kt (e : Int × Value) : PySem.Str := strOf e.2
/-- the set at a has just the texts of xs -/
def SX (P : Program) (w : World) (h : Heap) (a : Addr) (xs : List PySem.Str) : Prop := ∃ o es ep t,
  (h.get? a = some o ∧ o.ExactSet ∧ o.data = .set es ep t) ∧ ((∀ e ∈ es.toList, Gt P w e) ∧ (es.toList.map kt).Nodup ∧ ∀ x, x ∈ xs ↔ x ∈ es.toList.map kt) ∧
  (es.size < scanBound ∧ t.fits es.size = true ∧ es.size ≤ xs.length) ∧ Ris t.place.toList ∧ (w.params.followText "set-order" = true ∨ t.led = true)
section
variable {P : Program} {w : World} {h h' : Heap} {a : Addr} {xs : List PySem.Str}
theorem SX.keep (R : SX P w h a xs) (k : ∀ o, h.get? a = some o → h'.get? a = some o) : SX P w h' a xs := by
  obtain ⟨o, es, ep, t, ⟨ho, r⟩, q⟩ := R
  exact ⟨o, es, ep, t, ⟨k o ho, r⟩, q⟩
theorem SX.alike {ys : List PySem.Str} (R : SX P w h a xs) (k : ∀ x, x ∈ ys ↔ x ∈ xs) (hl : xs.length ≤ ys.length) : SX P w h a ys := by
  obtain ⟨o, es, ep, t, r, ⟨g, n, m⟩, ⟨q1, q2, q3⟩, z⟩ := R
  exact ⟨o, es, ep, t, r, ⟨g, n, fun x => (k x).trans (m x)⟩, ⟨q1, q2, Nat.le_trans q3 hl⟩, z⟩
theorem gt_is {e : Int × Value} (g : Gt P w e) (x : PySem.Str) : (PySem.strKind P w).is x e.2 = true ↔ kt e = x := by
  obtain ⟨y, tk, h1, _⟩ := g
  unfold kt
  rw [h1]
  refine ⟨fun z => ?_, fun z => ?_⟩
  · exact (PySem.strKind P w).inj (.str y tk) y x (strKind_is P w y tk) z
  · have z' : y = x := z
    rw [← z']
    exact strKind_is P w y tk
theorem gt_elems {l : List (Int × Value)} (g : ∀ e ∈ l, Gt P w e) : ElemsOf (PySem.strKind P w) l := fun e he => by
  obtain ⟨x, tk, h1, h2⟩ := g e he
  exact ⟨⟨x, (gt_is (g e he) x).2 (by unfold kt; rw [h1]; rfl), h2⟩, by rw [h1] <;> rfl⟩
theorem gt_mem {l : List (Int × Value)} (g : ∀ e ∈ l, Gt P w e) (x : PySem.Str) : x ∈ l.map kt ↔ ∃ e ∈ l, (PySem.strKind P w).is x e.2 = true := by
  refine ⟨fun z => ?_, fun ⟨e, he, q⟩ => List.mem_map.mpr ⟨e, he, (gt_is (g e he) x).1 q⟩⟩
  obtain ⟨e, he, q⟩ := List.mem_map.mp z
  exact ⟨e, he, (gt_is (g e he) x).2 q⟩
theorem SX.fresh (ho : h.get? a = some { cls := .type "set", dict := none, data := .set #[] 0 (.fresh 0 0 (!w.params.followText "set-order")) }) : SX P w h a [] := by
  refine ⟨_, #[], 0, _, ⟨ho, ⟨rfl, rfl, rfl⟩, rfl⟩, ⟨fun e he => (by simp at he), (by simp), fun x => (by simp)⟩, ⟨(by decide), (by rfl), (by decide)⟩, List.Pairwise.nil, ?_⟩
  show _ ∨ (!w.params.followText "set-order") = true
  cases w.params.followText "set-order"
  · exact .inr rfl
  · exact .inl rfl
end
section
variable {P : Program} {w : World} {A : Around} {E : Value → Shared → Prop} {s : Shared} {a : Addr} {xs : List PySem.Str}
theorem put_tail {g : Bool → Sem Unit} (hg : ∀ (b : Bool) (s1 : Shared) (Z : Unit → Shared → Prop), Z () s1 → wpAny (model P w) A (g b) Z E s1) {o : Obj} {es es1 : Array (Int × Value)} {ep : Nat} {t t2 : SetTable} {ys : List PySem.Str}
    (ho : s.heap.get? a = some o) (hex : o.ExactSet) (hd : o.data = .set es ep t) (g1 : ∀ e ∈ es1.toList, Gt P w e) (n1 : (es1.toList.map kt).Nodup) (m1 : ∀ x, x ∈ ys ↔ x ∈ es1.toList.map kt)
    (hb : es1.size < scanBound) (hf : t2.fits es1.size = true) (hy : es1.size ≤ ys.length) (hr : Ris t2.place.toList) (hl : w.params.followText "set-order" = true ∨ t2.led = true) {dm : Bool} {R : Option Bool → Shared → Prop}
    (hR : ∀ h', Heap.SameBut a s.heap h' → SX P w h' a ys → R (some true) { s with heap := h' }) :
    wpAny (model P w) A (do
      storeSet a es1 t2
      if (!dm && t2.tooFull) = true then do
          g (relayAll t2 es1 (SetTable.grown es1.size)).2.2
          storeSet a (relayAll t2 es1 (SetTable.grown es1.size)).1 (relayAll t2 es1 (SetTable.grown es1.size)).2.1
          pure (some true)
        else pure (some true)) R E s := by
  refine wpAny_bind (wpAny_storeSet_of ho hd ?_ (fits_of_scanBound hb))
  have o1 := store_at (es' := es1) (t' := t2) ho hd
  have b1 := Heap.SameBut.update s.heap a (Obj.putSet es1 t2)
  split
  · have p3 := relayAll_perm t2 es1 (SetTable.grown es1.size)
    have f3 := relayAll_fits t2 es1 (SetTable.grown es1.size)
    have r3 := relayAll_ris t2 es1 (SetTable.grown es1.size)
    have l3 := relayAll_led t2 es1 (SetTable.grown es1.size)
    generalize relayAll t2 es1 (SetTable.grown es1.size) = Z at p3 f3 r3 l3 ⊢
    obtain ⟨es2, t3, gave⟩ := Z
    dsimp only at p3 f3 r3 l3 ⊢
    have z : es2.size = es1.size := by rw [← Array.length_toList, p3.length_eq, Array.length_toList]
    refine wpAny_bind (hg _ _ _ (wpAny_bind (wpAny_storeSet_of o1 rfl ?_ (fits_of_scanBound (by rw [z]; exact hb)))))
    refine wpAny_pure (hR _ (b1.trans (Heap.SameBut.update _ a _)) ⟨_, es2, _, t3, ⟨store_at (es' := es2) (t' := t3) o1 rfl, hex, rfl⟩, ⟨fun e he => g1 e (p3.mem_iff.mp he), (p3.map kt).nodup_iff.mpr n1, fun x => (m1 x).trans (p3.map kt).mem_iff.symm⟩,
      ⟨by rw [z]; exact hb, f3, by rw [z]; exact hy⟩, r3, hl.imp id fun q => by rw [l3]; exact q⟩)
  · exact wpAny_pure (hR _ b1 ⟨_, es1, _, t2, ⟨o1, hex, rfl⟩, ⟨g1, n1, m1⟩, ⟨hb, hf, hy⟩, hr, hl⟩)
/-- one text more -/
theorem add_hashed {x : PySem.Str} {tk : Tok} {Q : Bool → Shared → Prop} (R : SX P w s.heap a xs) (room : xs.length + 1 < scanBound)
    (hQ : ∀ (b : Bool) h', Heap.SameBut a s.heap h' → SX P w h' a (xs ++ [x]) → Q b { s with heap := h' }) : wpAny (model P w) A (setAddHashed a (.str x tk) ((PySem.strKind P w).hash x)) Q E s := by
  have R0 := R
  obtain ⟨o, es, ep, t, ⟨ho, hex, hd⟩, ⟨g, nd, hm⟩, ⟨hb, hf, hn⟩, hr, hl⟩ := R
  have hkey : (PySem.strKind P w).is x (.str x tk) = true := strKind_is P w x tk
  have hsc : (Value.str x tk).scannable = true := rfl
  have hel : ElemsOf (PySem.strKind P w) es.toList := gt_elems g
  unfold setAddHashed setAddHashedIn
  refine wpAny_holding (wpAny_bind (wpAny_setState_of ho hd hf ?_))
  dsimp only
  rw [byScan_of hsc hb hel]
  simp only [↓reduceIte]
  unfold setAddByScan
  refine wpAny_bind (wpAny_bind (wpAny_rule (wpAny_bind (wpAny_setScan_of hkey ho hd hf hel ?_))))
  cases hfi : List.findIdx? (fun e => (PySem.strKind P w).is x e.2) es.toList with
  | some j =>
    dsimp only
    obtain ⟨hj, pj, _⟩ := List.findIdx?_eq_some_iff_getElem.mp hfi
    have hx : x ∈ xs := (hm x).2 ((gt_mem g x).2 ⟨es.toList[j], List.getElem_mem hj, pj⟩)
    refine wpAny_pure (wpAny_pure (hQ _ s.heap (Heap.SameBut.refl a s.heap) (R0.alike (fun y => ?_) (by simp))))
    rw [List.mem_append, List.mem_singleton]
    exact ⟨fun z => z.elim id fun e => e ▸ hx, .inl⟩
  | none =>
    dsimp only
    have hnk : x ∉ es.toList.map kt := fun z => by
      obtain ⟨e, he, q⟩ := (gt_mem g x).1 z
      have c := List.findIdx?_eq_none_iff.mp hfi e he
      rw [q] at c
      cases c
    have hgw : ∀ (b : Bool) {s1 : Shared} {Z : Unit → Shared → Prop}, Z () s1 → wpAny (model P w) A (match b with | true => rule "set.scan.the-table-gave-way" | false => pure ()) Z E s1 := fun b s1 Z q => by
      cases b
      · exact wpAny_pure q
      · exact wpAny_rule q
    have pm := layNew_perm t es ((PySem.strKind P w).hash x) (.str x tk)
    have hf1 := layNew_fits t es ((PySem.strKind P w).hash x) (.str x tk)
    have hr1 := layNew_ris t es ((PySem.strKind P w).hash x) (.str x tk) hr
    have hl1 := layNew_led t es ((PySem.strKind P w).hash x) (.str x tk)
    generalize layNew t es ((PySem.strKind P w).hash x) (.str x tk) = Z at pm hf1 hr1 hl1 ⊢
    obtain ⟨es1, t1, dm, gave⟩ := Z
    dsimp only at pm hf1 hr1 hl1 ⊢
    rw [Array.toList_push] at pm
    have pc : es1.toList.Perm (((PySem.strKind P w).hash x, Value.str x tk) :: es.toList) := pm.trans (List.perm_append_singleton _ _)
    have pk : (es1.toList.map kt).Perm (x :: es.toList.map kt) := pc.map kt
    have g1 : ∀ e ∈ es1.toList, Gt P w e := fun e he => by
      rcases List.mem_cons.mp (pc.mem_iff.mp he) with z | z
      · exact ⟨x, tk, by rw [z], by rw [z]⟩
      · exact g e z
    have n1 : (es1.toList.map kt).Nodup := pk.nodup_iff.mpr (List.nodup_cons.mpr ⟨hnk, nd⟩)
    have m1 : ∀ y, y ∈ xs ++ [x] ↔ y ∈ es1.toList.map kt := fun y => by
      rw [pk.mem_iff, List.mem_cons, List.mem_append, List.mem_singleton, hm y]
      exact Or.comm
    have hsz : es1.size = es.size + 1 := by rw [← Array.length_toList, pc.length_eq, List.length_cons, Array.length_toList]
    have hy : es1.size ≤ (xs ++ [x]).length := by rw [hsz, List.length_append]; exact Nat.succ_le_succ hn
    have hb1 : es1.size < scanBound := by rw [hsz]; omega
    have hled : w.params.followText "set-order" = true ∨ t1.led = true := hl.imp id fun z => by rw [hl1]; exact z
    refine wpAny_bind (hgw _ ?_)
    split
    · refine wpAny_bind ?_
      rw [hashByValue_scannable 8 hsc]
      refine wpAny_pure (put_tail ?_ ho hex hd g1 n1 m1 hb1 ?_ hy ?_ ?_ ?_)
      · intro b s1 Z q
        cases b <;> first | exact wpAny_pure q | exact wpAny_rule q
      · first | (split <;> first | exact hf1 | exact SetTable.fits_plain_off hf1) | exact hf1
      · first | (split <;> exact hr1) | exact hr1
      · first | (split <;> exact hled) | exact hled
      · intro h' sb r
        exact wpAny_pure (hQ _ h' sb r)
    · refine wpAny_bind (wpAny_pure ?_)
      simp only [↓reduceIte]
      refine put_tail ?_ ho hex hd g1 n1 m1 hb1 hf1 hy hr1 hled ?_
      · intro b s1 Z q
        cases b <;> first | exact wpAny_pure q | exact wpAny_rule q
      · intro h' sb r
        exact wpAny_pure (hQ _ h' sb r)
end
end TX
namespace TX
open PySem PySem.Spec PyProof.Rows L2
section
variable {P : Program} {w : World} {A : Around} {E : Value → Shared → Prop} {s : Shared}
/-- the loop that puts all items of a list in -/
theorem fill_loop {I : Addr} {fp wr : List Addr} {G : Array GenState → Array GenState → Prop} {n : Nat} {Pv : Nat → Value → Prop} {St : Nat → Shared → Prop} {R : Result → Shared → Prop}
    (W : WalksS P w A.in1 I fp wr G n Pv St) (S : Addr) (hSf : S ∉ fp) (xs : List PySem.Str) (hn : n = xs.length) (few : xs.length + 1 < scanBound) (hval : ∀ i v, Pv i v → ∃ x t, xs[i]? = some x ∧ v = .str x t) :
    ∀ (k i : Nat) (s : Shared), n - i = k → i ≤ n → St i s → SX P w s.heap S (xs.take i) → (∀ s', Moved (S :: wr) G s s' → SX P w s'.heap S xs → R (.ok (.ret .none)) s') →
      codeAny (model P w) A (.builtin "set.update.loop" ⟨[.ref S, .ref I], []⟩) R s := by
  have hSw : S ∉ wr := fun h => hSf (W.sub _ h)
  have more : ∀ b ∈ wr, b ∈ S :: wr := fun b hb => List.mem_cons_of_mem _ hb
  intro k
  induction k with
  | zero =>
    intro i s hk hi hst hS hR
    have e : xs.take i = xs := List.take_of_length_le (by omega)
    rw [e] at hS
    have hin : i = n := by omega
    subst hin
    refine codeAny_builtin F.entry_set_update_loop ?_; rw [Around.under_plainId F.plain_set_update_loop _]; show wpAny _ A.in1 (pyNext (.ref I) >>= _) _ _ s
    refine wpAny_bind (W.done s _ _ hst fun s' hm => ?_)
    exact wpAny_pure (hR s' (hm.mono more) (hS.keep fun o e => hm.heap S o hSw e))
  | succ k ih =>
    intro i s hk hi hst hS hR
    have hlt : i < n := by omega
    refine codeAny_builtin F.entry_set_update_loop ?_; rw [Around.under_plainId F.plain_set_update_loop _]; show wpAny _ A.in1 (pyNext (.ref I) >>= _) _ _ s
    refine wpAny_bind (W.item i s _ _ hlt hst fun v s' hP hst' hm => ?_)
    obtain ⟨x, t, hx, rfl⟩ := hval i v hP
    have hS' : SX P w s'.heap S (xs.take i) := hS.keep fun o e => hm.heap S o hSw e
    show wpAny _ A.in1 (holding [Value.str x t] (setAdd S (.str x t)) >>= _) _ _ s'
    unfold setAdd
    refine wpAny_bind (wpAny_holding (wpAny_holding (wpAny_bind ((PySem.strKind P w).pyHash (k := x) (strKind_is _ _ _ _) ?_))))
    refine add_hashed (s := { s' with toks := s'.toks + 1 }) hS' (by rw [List.length_take]; omega) fun b h' hsb hS2 => ?_
    have hS3 : SX P w h' S (xs.take (i + 1)) := by
      rw [List.take_add_one, hx]
      exact hS2
    refine wpAny_pure ⟨plainId_quiet F.plain_set_update_loop _, ih (i + 1) _ (by omega) hlt (W.frame _ s' _ _ hst' (Nat.le_succ _) fun b hb o e => ?_) hS3 fun s2 hm2 hS4 => ?_⟩
    · exact (hsb.2 b fun h : b = S => hSf (by rw [← h]; exact hb)).trans e
    · refine hR s2 (Moved.trans W.gtrans ((hm.mono more).then_heap (Nat.le_succ _) fun b o hb e => ?_) hm2) hS4
      exact (hsb.2 b fun h : b = S => hb (by rw [h]; exact List.mem_cons_self)).trans e
def S0 (w : World) : Obj := { cls := .type "set", dict := none, data := .set #[] 0 (.fresh 0 0 (!w.params.followText "set-order")) }
/-- set(xs), xs a list of texts -/
theorem set_of {l : Addr} {items : Array Value} (xs : List PySem.Str) {Q : Value → Shared → Prop} (hh : A.handled = none) (hl : s.heap.IsList l items) (hit : StrsAre items.toList xs) (few : xs.length + 1 < scanBound)
    (h : ∀ (h' : Heap) (tk : Nat), SX P w h' s.heap.objs.size xs → (∀ b o, s.heap.get? b = some o → h'.get? b = some o) → Q (.ref s.heap.objs.size) { s with heap := h', toks := tk }) :
    wpAny (model P w) A (call (.type "set") [.ref l]) Q E s := by
  have hisz : items.size = xs.length := by rw [← StrsAre.len_eq hit, Array.length_toList]
  obtain ⟨c, tl, hmro⟩ := F.called_set.mro
  have hmade := F.called_set.made; have hsub := F.called_set.sub
  refine wpAny_call (codeAny_of_tree ?_); show wpAny _ _ (callAny (.type "set") _) _ _ _
  refine wpAny_pure ⟨Code.quiet_builtin _ (by decide +kernel), codeAny_builtin F.entry_type_call ?_⟩; rw [Around.under_plain (weight_type_call_type "set" [.ref l] []) rfl]
  have h1 := F.called_set.notType; have h2 := F.called_set.canCreate; have hct := F.typeCall_set_1 (.ref l)
  repeat (any_goals (first | assumption | wp_step))
  refine codeAny_mono (code_set_led1 (.ref l) (E := E) (Q₁ := fun obj z => obj = .ref s.heap.objs.size ∧ z = { s with heap := s.heap.push (S0 w) }) ⟨rfl, rfl⟩) fun r z hr => ?_
  cases r with
  | error e => exact hr
  | ok fl =>
    cases fl with
    | ret obj =>
      obtain ⟨rfl, rfl⟩ := hr
      have hS : (s.heap.push (S0 w)).get? s.heap.objs.size = some (S0 w) := Heap.get?_push_size _ rfl
      have hT : Shared.TypeIs { s with heap := s.heap.push (S0 w) } (.ref s.heap.objs.size) "set" := ⟨_, hS, rfl⟩
      have hli := F.called_set.init.lookup; have hbi := F.called_set.init.bind (.ref s.heap.objs.size)
      repeat (any_goals (first | assumption | wp_step))
      refine codeAny_mono (codeAny_call_builtin (R := wants (fun r z => r = .none ∧ ∃ h' tk, z = { s with heap := h', toks := tk } ∧ SX P w h' s.heap.objs.size xs ∧ (∀ b o, s.heap.get? b = some o → h'.get? b = some o)) E)
        F.called_set.init.plain F.entry_set_init (check_set_init_1 hT ?_)) fun r2 z hr2 => ?_
      · obtain ⟨ol, hol, hcl, nl, hdl⟩ := hl
        obtain ⟨ocls, odict, odata, oslots⟩ := ol
        simp only at hcl hdl
        subst hcl; subst hdl
        have hol' : (s.heap.push (S0 w)).get? l = some { cls := .type "list", dict := odict, data := .seq items nl, slots := oslots } := Heap.get?_push_of_some _ hol
        have hsls := F.sub_list_set; have hslf := F.sub_list_frozenset
        have hne : (Value.type "list" == Value.type "dict") = false := by decide
        have hl1 : (s.heap.push (S0 w)).IsList l items := ⟨_, hol', rfl, nl, rfl⟩
        unfold Builtin.«set.__init__» noKeywords Builtin.Frozenset.updateFrom
        generalize hPI : pyIter = PI
        wp_walk
        subst hPI
        refine wpAny_pyIter_list hl1 (wpAny_bind (wpAny_runValue ?_))
        have hlS : l < s.heap.objs.size := Heap.lt_size hol
        have hh3 : A.in1.in1.in1.handled = none := by simp [hh]
        have hsz : (s.heap.push (S0 w)).objs.size = s.heap.objs.size + 1 := Heap.size_push ..
        have hneI : l ≠ (s.heap.push (S0 w)).objs.size := hsz ▸ Nat.ne_of_lt (Nat.lt_succ_of_lt hlS)
        have hSf : s.heap.objs.size ∉ [(s.heap.push (S0 w)).objs.size, l] := by
          rw [hsz]; simp only [List.mem_cons, List.mem_singleton, List.not_mem_nil, or_false, not_or]; exact ⟨Nat.ne_of_lt (Nat.lt_succ_self _), Nat.ne_of_gt hlS⟩
        have hval : ∀ (i : Nat) (v : Value), items[i]? = some v → ∃ x t, xs[i]? = some x ∧ v = .str x t := fun i v hv => by
          obtain ⟨t, e⟩ := SS.strs_at hit i v (by rw [Array.getElem?_toList]; exact hv)
          have hi : i < xs.length := by rw [← hisz]; exact (Array.getElem?_eq_some_iff.mp hv).1
          exact ⟨xs.getD i Str.empty, t, by rw [List.getD_eq_getElem?_getD, List.getElem?_eq_getElem hi]; rfl, e⟩
        refine fill_loop ((Walks.list hh3 _ l hneI items).toS) s.heap.objs.size hSf xs hisz few hval (items.size - 0) 0 _ (by omega) (Nat.zero_le _) ⟨⟨_, Heap.get?_push_size _ rfl, rfl, rfl⟩, (hl1.push _)⟩ ?hS0 ?hR
        case hS0 => exact SX.fresh (Heap.get?_push_of_some _ hS)
        case hR =>
          intro s' hm hS'
          obtain ⟨h', g2, d', tk', os'⟩ := s'
          have eg : g2 = s.gens := hm.gens
          have ed : d' = s.drawn := hm.drawn
          have eo : os' = s.os := hm.os
          subst eg; subst ed; subst eo
          show wpAny _ _ _ _ _ _
          refine wpAny_pure ?_
          show wpAny _ _ (ret Value.none) _ _ _
          refine wpAny_pure ⟨rfl, h', tk', rfl, hS', fun b o e => ?_⟩
          have hlt := Heap.lt_size e
          have n1 : b ≠ s.heap.objs.size := Nat.ne_of_lt hlt
          have n2 : b ≠ (s.heap.push (S0 w)).objs.size := hsz ▸ Nat.ne_of_lt (Nat.lt_succ_of_lt hlt)
          exact hm.heap b o (by simp only [List.mem_cons, List.mem_singleton, List.not_mem_nil, or_false, not_or]; exact ⟨n1, n2⟩) (Heap.get?_push_of_some _ (Heap.get?_push_of_some _ e))
      · cases r2 with
        | error e => exact hr2
        | ok fl2 =>
          cases fl2 with
          | ret r =>
            obtain ⟨rfl, h', tk, rfl, hS', hk⟩ := hr2
            repeat (any_goals (first | assumption | wp_step))
            exact h _ _ hS' hk
          | _ => exact hr2.elim
    | _ => exact hr.elim
/-- what is collected, sorted -/
theorem sorted_of {a : Addr} {xs : List PySem.Str} {Q : Value → Shared → Prop} (R : SX P w s.heap a xs) (hh : A.handled = none) (h64 : xs.length < 64)
    (hQ : ∀ s' p (out : Array Value) (c : Nat) (ys : List PySem.Str), (∀ b o, s.heap.get? b = some o → s'.heap.get? b = some o) → s'.gens = s.gens → s'.os = s.os → s.heap.objs.size ≤ p →
      s'.heap.get? p = some (seqObj "list" out c) → StrsAre out.toList ys → sortedS ys = true → ys.Nodup → (∀ x, x ∈ ys ↔ x ∈ xs) → ys.length ≤ xs.length → Q (.ref p) s') : wpAny (model P w) A (call (.builtin "sorted") [.ref a]) Q E s := by
  obtain ⟨o, es, ep, t, ⟨ho, hex, hd⟩, ⟨g, nd, hm⟩, ⟨hb, hf, hn⟩, hr, hl⟩ := R
  refine Calls.call_function_entry kind_sorted plain_sorted entry_sorted (args_sorted1 _) ?_; unfold Builtin.«sorted»; refine wpAny_bind (m := checkCount "sorted" 1 1 _) (wpAny_pure ?_)
  refine wpAny_bind (collect_set (A := A.in1) hh ⟨o, ho, hex.1, hd⟩ hf hb hr hl fun s1 vs k1 hz g1 o1 pm => ?_)
  have hvl : vs.length = es.size := by rw [pm.length_eq, List.length_map, Array.length_toList]
  have hI : StrsAre vs (vs.map strOf) := strsAre_map vs fun v hv => by
    obtain ⟨e, he, q⟩ := List.mem_map.mp (pm.mem_iff.mp hv)
    obtain ⟨x, tk, h1, _⟩ := g e he
    exact ⟨x, tk, by rw [← q]; exact h1⟩
  have pk : (vs.map strOf).Perm (es.toList.map kt) := by
    have q := pm.map strOf
    rw [List.map_map] at q
    exact q
  refine wpAny_bind (wpAny_newList ?_ (by rw [hvl, sizeLine_eq]; omega))
  have hoL : (s1.heap.push (seqObj "list" vs.toArray 0)).get? s1.heap.objs.size = some (seqObj "list" vs.toArray 0) := Heap.get?_push_size _ rfl
  refine wpAny_bind (wpAny_holding (wpAny_call_entry slot_list_sort ⟨_, hoL, rfl⟩ entry_list_sort (list_sort_treeK strKind_oneLt hoL hI.keysOf (fun v1 v2 rest e => keyKind_strs (by rw [← e]; exact hI)) (by rw [hvl]; omega) fun st hp hs => ⟨_, rfl, ?_⟩) (args_list_sort _)))
  obtain ⟨ys, a1, a2, a3⟩ := sorted_out_str hI hp hs
  obtain ⟨c, hc⟩ := sortedHeap_at (vs := vs) (out := (arrOf st).map (·.2)) hoL
  have pn : ys.Perm (es.toList.map kt) := a2.trans pk
  refine wpAny_pure ⟨_, rfl, hQ _ s1.heap.objs.size _ c ys (fun b u e => ?_) g1 o1 hz hc a1 a3 (pn.nodup_iff.mpr nd) (fun x => by rw [pn.mem_iff, ← hm x]) ?_⟩
  · have q := k1 b u e
    have hlt := Heap.lt_size q
    exact (sortedHeap_old (Nat.ne_of_lt hlt) (by rw [size_push']; exact Nat.lt_succ_of_lt hlt)).trans (Heap.get?_push_of_some _ q)
  · rw [pn.length_eq, List.length_map, Array.length_toList]; exact hn
end
end TX
/-! sorted(set(texts)), and that it is one list only. -/
namespace TX
open PySem PySem.Spec PyProof.Rows L2
theorem rising_pair : ∀ (l : List PySem.Str) (p : PySem.Str), risingS p l = true → (p :: l).Pairwise fun a b => a.cps.toList ≤ b.cps.toList
  | [], p, _ => List.pairwise_singleton _ _
  | x :: r, p, h => by
    have h' : (!ltCps x.cps.toList p.cps.toList && risingS x r) = true := h
    rw [Bool.and_eq_true, ltCps_eq] at h'
    obtain ⟨h1, h2⟩ := h'
    have q := rising_pair r x h2
    have px : p.cps.toList ≤ x.cps.toList := by
      intro z
      rw [show decide (x.cps.toList < p.cps.toList) = true from decide_eq_true z] at h1
      cases h1
    refine List.pairwise_cons.mpr ⟨fun y hy => ?_, q⟩
    rcases List.mem_cons.mp hy with e | e
    · exact e ▸ px
    · exact List.le_trans px ((List.pairwise_cons.mp q).1 y e)
theorem sorted_pair {l : List PySem.Str} (h : sortedS l = true) : l.Pairwise fun a b => a.cps.toList ≤ b.cps.toList := by
  cases l with
  | nil => exact List.Pairwise.nil
  | cons x r => exact rising_pair r x h
theorem str_ext {a b : PySem.Str} (h : a.cps.toList = b.cps.toList) : a = b := by
  cases a; cases b
  simpa using h
/-- an ascending list without doubles -/
def Asc (l : List PySem.Str) : Prop := sortedS l = true ∧ l.Nodup
theorem Asc.one {l m : List PySem.Str} (a : Asc l) (b : Asc m) (h : ∀ x, x ∈ l ↔ x ∈ m) : l = m :=
  List.Perm.eq_of_pairwise (le := fun a b : PySem.Str => a.cps.toList ≤ b.cps.toList) (fun x y _ _ p q => str_ext (List.le_antisymm p q)) (sorted_pair a.1) (sorted_pair b.1) ((List.perm_ext_iff_of_nodup a.2 b.2).mpr h)
theorem Asc.perm {l m : List PySem.Str} (a : Asc l) (b : sortedS m = true) (h : m.Perm l) : m = l := Asc.one ⟨b, h.nodup_iff.mpr a.2⟩ a fun x => h.mem_iff
theorem sorted_perm {l m : List PySem.Str} (a : sortedS l = true) (b : sortedS m = true) (h : l.Perm m) : l = m :=
  List.Perm.eq_of_pairwise (le := fun a b : PySem.Str => a.cps.toList ≤ b.cps.toList) (fun x y _ _ p q => str_ext (List.le_antisymm p q)) (sorted_pair a) (sorted_pair b) h
/-- the set, for the abstract heap -/
def SXO (P : Program) (w : World) (a : Addr) (xs : List PySem.Str) : HO := .ext fun h => SX P w h a xs
theorem sxo_new {P : Program} {w : World} {H : Hp} {h : Heap} {a : Addr} {xs : List PySem.Str} (R : SX P w h a xs) : ObjOk P w H h a (SXO P w a xs) := by
  have ⟨o, _, _, _, ⟨ho, _⟩, _⟩ := R
  exact ⟨R, ⟨o, ho⟩, fun h1 h2 p k => SX.keep p k⟩
section
variable {X : Cx}
theorem cr_setX (hc : X.calm = true) : CallR X (.type "set") (fun vs H Q => ∃ (l : Addr) (xs : List PySem.Str), vs = [.ref l] ∧ SqL X.K H l (xs.map V.str) ∧ xs.length < 64 ∧ ∀ a, H a = none → Q (.ref a) (upd H a (SXO X.prog X.w a xs))) := by
  intro pins s σ H vs us Q I r h
  obtain ⟨l, xs, rfl, hl, few, q⟩ := h
  rw [Vals.ref1 r]
  obtain ⟨its, rv, pl, hz⟩ := I.list hl
  have hn : H s.heap.objs.size = none := I.hok.fresh (Nat.le_refl _)
  refine set_of (P := X.prog) (w := X.w) xs (I.ok.hd hc) pl.isList (by simpa using rv.strs) (by unfold scanBound; omega) fun h' tk R k => ?_
  exact ⟨.ref s.heap.objs.size, upd H s.heap.objs.size (SXO X.prog X.w s.heap.objs.size xs), I.laid (t' := tk) k (Nat.le_refl _) (sxo_new R), rfl, q _ hn⟩
theorem cr_sortedX (hc : X.calm = true) : CallR X (.builtin "sorted") (fun vs H Q => ∃ (a : Addr) (xs : List PySem.Str), vs = [.ref a] ∧ H a = some (SXO X.prog X.w a xs) ∧ xs.length < 64 ∧
    ∀ ys p, Asc ys → (∀ x, x ∈ ys ↔ x ∈ xs) → ys.length ≤ xs.length → H p = none → Q (.ref p) (upd H p (.lst (ys.map V.str)))) := by
  intro pins s σ H vs us Q I r h
  obtain ⟨a, xs, rfl, ha, few, q⟩ := h
  have R0 : SX X.prog X.w s.heap a xs := (I.hok a _ ha).1
  rw [Vals.ref1 r]
  refine sorted_of R0 (I.ok.hd hc) few fun s' p out c ys k g o hp hg hout h1 h2 h3 h4 => ?_
  have hlen : (ys.map V.str).length ≤ sizeLine := by rw [List.length_map, sizeLine_eq]; omega
  have hn : H p = none := I.hok.fresh hp
  have J : Inv X pins σ (upd H p (.lst (ys.map V.str))) { s with heap := s'.heap, gens := s'.gens, drawn := s'.drawn, toks := s'.toks } :=
    I.call (ch := []) (Un.laid k hp hn) (I.hok.laid k hp ⟨hlen, out.toList, c, vals_of_strs hout, hg⟩) (by rw [g]; exact I.bare) (fun _ z => nomatch z)
  have e : s' = { s with heap := s'.heap, gens := s'.gens, drawn := s'.drawn, toks := s'.toks } := by
    cases s'; cases s; cases o; rfl
  rw [e]
  exact ⟨.ref p, _, J, rfl, q ys p ⟨h1, h2⟩ h3 h4 hn⟩
end
end TX
/-! list(d.items()), d a dict of texts. -/
namespace TX
open PySem PySem.Spec PyProof.Rows L2
theorem paired_at {α β : Type} {F : α → β → Prop} : ∀ {l : List α} {m : List β} {j : Nat} {x : α} {y : β}, Paired F l m → l[j]? = some x → m[j]? = some y → F x y
  | _, _, _, _, _, .nil, h, _ => by simp at h
  | _, _, 0, x, y, .cons a b, h1, h2 => by
    simp at h1 h2
    exact h1 ▸ h2 ▸ a
  | _, _, j + 1, x, y, .cons a b, h1, h2 => paired_at (j := j) b (by simpa using h1) (by simpa using h2)
section
variable {X : Cx}
theorem mt_items : MtR X "dict.items" (fun x vs H Q => ∃ (a : Addr) (kvs : List (L2.Key × V)), x = .ref a ∧ vs = [] ∧ Rd H a (.dK kvs) ∧ ∀ p, H p = none → Q (.ref p) (upd H p (L2.DX.itemsO p a))) := by
  intro pins s σ H x xs v us Q I rx rxs h
  obtain ⟨a, kvs, rfl, rfl, ha, q⟩ := h
  cases rx; cases rxs
  obtain ⟨z, hd, vs, rel, o, es, ep, ho, hx, hdat, _⟩ := dk_rd I.hok ha
  refine DT.callItems (es := es) (ep := ep) hd ⟨o, ho, hx, hdat⟩ ?_
  exact ⟨.ref s.heap.objs.size, _, I.laid (t' := s.toks) (fun b u e => Heap.get?_push_of_some _ e) (Nat.le_refl _) (L2.DX.itemsO_ok (Heap.get?_push_size _ rfl)), rfl, q _ (I.hok.fresh (Nat.le_refl _))⟩
theorem cr_listItems (hc : X.calm = true) : CallR X (.type "list") (fun vs H Q => ∃ (p a : Addr) (kvs : List (L2.Key × V)), vs = [.ref p] ∧ H p = some (L2.DX.itemsO p a) ∧ Rd H a (.dK kvs) ∧
    ∀ H' l as, (∀ b o, H b = some o → H' b = some o) → H l = none → H' l = some (.lst (as.map V.ref)) → Paired (fun b kv => H b = none ∧ H' b = some (.tup [kV kv.1, kv.2])) as kvs → Q (.ref l) H') := by
  intro pins s σ H vs us Q I r h
  obtain ⟨p, a, kvs, rfl, hp, ha, q⟩ := h
  rw [Vals.ref1 r]
  have view : s.heap.IsItemsView p a := (show ObjOk X.prog X.w H s.heap p (L2.DX.itemsO p a) from I.hok p _ hp).1
  obtain ⟨z, hd, vs, rel, dd⟩ := dk_rd I.hok ha
  obtain ⟨ep, hat⟩ := dd.dictAt
  have lv : kvs.length = vs.length := Paired.length rel
  have hS : H s.heap.objs.size = none := I.hok.fresh (Nat.le_refl _)
  refine PySem.W.kdx_call (knd := mixKind X.prog X.w) (kvs := vs) (ep := ep) (I.ok.hd hc) view hat (by omega) fun h' tk acc c as hk hl hn hG hacc => ?_
  have nd : as.Nodup := List.Pairwise.imp (fun h => Nat.ne_of_lt h) hG.rise
  have vr : ∀ l : List Addr, Vals (l.map V.ref) (l.map Value.ref) := fun l => by
    induction l with
    | nil => exact .nil
    | cons x l ih => exact .cons rfl ih
  have I1 : Inv X pins σ (upd H s.heap.objs.size (.lst (as.map V.ref))) { s with heap := h', toks := tk } := I.laid (t' := tk) hk (Nat.le_refl _) ⟨by rw [List.length_map]; omega, acc.toList, c, by rw [hacc]; exact vr as, by rw [Array.toArray_toList]; exact hl⟩
  have ent : ∀ (j : Nat) (b : Addr), as[j]? = some b → ∃ kv, kvs[j]? = some kv ∧ ∀ H2, ObjOk X.prog X.w H2 h' b (.tup [kV kv.1, kv.2]) := fun j b hj => by
    obtain ⟨key, k, x, e1, e2, e3⟩ := hG.pairs j b hj
    have hj2 : j < kvs.length := by rw [lv]; exact (List.getElem?_eq_some_iff.mp e1).1
    have e4 : kvs[j]? = some kvs[j] := List.getElem?_eq_getElem hj2
    obtain ⟨r1, r2⟩ := paired_at rel e4 e1
    have r1' : kvs[j].1 = k := r1
    refine ⟨_, e4, fun H2 => ⟨by show 2 ≤ sizeLine; rw [sizeLine_eq]; omega, [key, x], .cons ?_ (.cons r2 .nil), _, e3, rfl, _, rfl⟩⟩
    rw [r1']
    exact keyIs_rel e2
  have low : ∀ b ∈ as, s.heap.objs.size ≤ b ∧ upd H s.heap.objs.size (.lst (as.map V.ref)) b = none := fun b hb => by
    have g := hG.above b hb
    exact ⟨Nat.le_of_lt g, by rw [upd_ne (Nat.ne_of_gt g)]; exact I.hok.fresh (Nat.le_of_lt g)⟩
  obtain ⟨H2, I2, k2, t2⟩ := L2.DX.takeT (P := fun b xs => ∃ kv : L2.Key × V, (∀ j : Nat, as[j]? = some b → kvs[j]? = some kv) ∧ xs = [kV kv.1, kv.2]) I as _ I1 nd fun b hb => by
    obtain ⟨j, hj⟩ := List.mem_iff_getElem?.mp hb
    obtain ⟨kv, e, ok⟩ := ent j b hj
    refine ⟨(low b hb).1, (low b hb).2, _, ⟨kv, fun i hi => ?_, rfl⟩, ok⟩
    obtain ⟨i1, q1⟩ := List.getElem?_eq_some_iff.mp hi
    obtain ⟨j1, q2⟩ := List.getElem?_eq_some_iff.mp hj
    have : i = j := (List.getElem_inj nd).mp (q1.trans q2.symm)
    rw [this]; exact e
  have nS : ∀ b o, H b = some o → b ≠ s.heap.objs.size := fun b o e n => by rw [n, hS] at e; cases e
  refine ⟨.ref s.heap.objs.size, H2, I2, rfl, q H2 _ as (fun b o e => k2 b o (by rw [upd_ne (nS b o e)]; exact e)) hS (k2 _ _ upd_same) ?_⟩
  have all : ∀ (j : Nat) (b : Addr) (kv : L2.Key × V), as[j]? = some b → kvs[j]? = some kv → H b = none ∧ H2 b = some (.tup [kV kv.1, kv.2]) := fun j b kv h1 h2 => by
    have hb : b ∈ as := List.mem_of_getElem? h1
    obtain ⟨xs, ⟨kv', e1, e2⟩, e3⟩ := t2 b hb
    have e4 := e1 j h1
    rw [h2] at e4
    cases e4
    exact ⟨I.hok.fresh (low b hb).1, by rw [e3, e2]⟩
  have build : ∀ (l : List Addr) (m : List (L2.Key × V)), l.length = m.length → (∀ (j : Nat) (b : Addr) (kv : L2.Key × V), l[j]? = some b → m[j]? = some kv → H b = none ∧ H2 b = some (.tup [kV kv.1, kv.2])) → Paired (fun b kv => H b = none ∧ H2 b = some (.tup [kV kv.1, kv.2])) l m := fun l => by
    induction l with
    | nil =>
      intro m hm _
      cases m with
      | nil => exact .nil
      | cons y m => simp at hm
    | cons x l ih =>
      intro m hm ha
      cases m with
      | nil => simp at hm
      | cons y m => exact .cons (ha 0 x y rfl rfl) (ih m (by simpa using hm) fun j b kv h1 h2 => ha (j + 1) b kv (by simpa using h1) (by simpa using h2))
  exact build as kvs (by omega) all
end
end TX
/-! Logs, purely: their texts, and how these are read. -/
namespace DK
open PySem PySem.Spec PyProof.Rows L2 TL RX
theorem cutV_init (xs : List V) : cutV xs none (some (-1)) = xs.dropLast := by
  show (xs.drop 0).take ((if (-1 : Int) < 0 then ((-1 : Int) + (xs.length : Int)).toNat else min (-1 : Int).toNat xs.length) - 0) = _
  rw [if_pos (by decide), List.drop_zero, List.dropLast_eq_take]
  exact congrArg (fun n => xs.take n) (by omega)
theorem cutV_drop (xs : List V) (k : Nat) : cutV xs (some (k : Nat)) none = xs.drop k := by
  show (xs.drop (HT.sIx xs.length 0 (some ((k : Nat) : Int)))).take (HT.sIx xs.length xs.length none - HT.sIx xs.length 0 (some ((k : Nat) : Int))) = _
  rw [HT.sIx_nat, HT.sIx_none]
  by_cases h : k ≤ xs.length
  · rw [Nat.min_eq_left h, List.take_of_length_le (by rw [List.length_drop]; exact Nat.le_refl _)]
  · rw [Nat.min_eq_right (by omega), Nat.sub_self, List.take_zero, List.drop_eq_nil_of_le (by omega)]
theorem cutV_take (xs : List V) (k : Nat) : cutV xs none (some (k : Nat)) = xs.take k := by
  show (xs.drop 0).take (HT.sIx xs.length xs.length (some ((k : Nat) : Int)) - 0) = xs.take k
  rw [HT.sIx_nat, List.drop_zero, Nat.sub_zero]
  exact List.take_eq_take_iff.mpr (by omega)
theorem cutV_mid (xs : List V) (k : Nat) : cutV xs (some (k : Nat)) (some (-1)) = (xs.drop k).dropLast := by
  show (xs.drop (HT.sIx xs.length 0 (some ((k : Nat) : Int)))).take ((if (-1 : Int) < 0 then ((-1 : Int) + (xs.length : Int)).toNat else min (-1 : Int).toNat xs.length) - HT.sIx xs.length 0 (some ((k : Nat) : Int))) = _
  rw [HT.sIx_nat, if_pos (by decide), List.dropLast_eq_take, List.length_drop]
  by_cases h : k ≤ xs.length
  · rw [Nat.min_eq_left h]
    exact congrArg (fun n => (xs.drop k).take n) (by omega)
  · rw [Nat.min_eq_right (by omega), List.drop_eq_nil_of_le (by omega), List.drop_eq_nil_of_le (by omega), List.take_nil, List.take_nil]
theorem atI_end {α : Type} {xs : List α} {v : α} (h : xs.getLast? = some v) : atI xs (-1) = some v := by
  obtain ⟨ys, rfl⟩ := List.getLast?_eq_some_iff.mp h
  exact atI_last ys v
theorem joinL_len (S : List Nat) : ∀ ps : List (List Nat), (joinL S ps).length ≤ (ps.map (·.length)).sum + ps.length * S.length
  | [] => Nat.zero_le _
  | [p] => by show p.length ≤ _; simp
  | p :: q :: r => by
    have ih := joinL_len S (q :: r)
    show (p ++ (S ++ joinL S (q :: r))).length ≤ _
    rw [List.length_append, List.length_append, List.map_cons, List.sum_cons, List.length_cons, Nat.succ_mul]
    omega
theorem join_len (y : PySem.Str) (ps : List PySem.Str) : (Txt.join y ps).length ≤ (ps.map (·.length)).sum + ps.length * y.length := by
  have h := joinL_len (tl y) (ps.map tl)
  rw [← tl_join, ← join_eq, ← len_tl, ← len_tl, List.length_map, List.map_map] at h
  have e : (List.length ∘ tl) = fun x : PySem.Str => x.length := funext fun x => (len_tl x).symm
  rw [e] at h
  exact h
theorem sum_le {ps : List PySem.Str} {m : Nat} (h : ∀ p ∈ ps, p.length ≤ m) : (ps.map (·.length)).sum ≤ ps.length * m := by
  induction ps with
  | nil => exact Nat.zero_le _
  | cons p ps ih =>
    rw [List.map_cons, List.sum_cons, List.length_cons, Nat.succ_mul]
    have := h p List.mem_cons_self
    have := ih fun q hq => h q (List.mem_cons_of_mem _ hq)
    omega
theorem pd_at {α β : Type} {F : α → β → Prop} : ∀ {xs : List α} {ys : List β} {j : Nat} {x : α}, Paired F xs ys → xs[j]? = some x → ∃ y, y ∈ ys ∧ F x y
  | _, _, _, _, .nil, h => by simp at h
  | _, _, 0, x, .cons a b, h => by
    simp at h
    exact ⟨_, List.mem_cons_self, h ▸ a⟩
  | _, _, j + 1, x, .cons a b, h => by
    obtain ⟨y, m, f⟩ := pd_at (j := j) b (by simpa using h)
    exact ⟨y, List.mem_cons_of_mem _ m, f⟩
theorem strs_inj {xs ys : List PySem.Str} (h : xs.map V.str = ys.map V.str) : xs = ys := by
  induction xs generalizing ys with
  | nil => cases ys with
    | nil => rfl
    | cons y ys => cases h
  | cons x xs ih => cases ys with
    | nil => cases h
    | cons y ys =>
      rw [List.map_cons, List.map_cons] at h
      injection h with h1 h2
      injection h1 with h1
      rw [h1, ih h2]
theorem join_all {H : Hp} : ∀ {vs : List V} {L : List (List PySem.Str)} {ys : List V}, Paired (fun u ws => ∃ q, u = V.ref q ∧ H q = some (.tup (ws.map V.str))) vs L →
    Paired (fun u y => ∃ ws q, (u = V.ref q ∧ H q = some (.tup (ws.map V.str))) ∧ y = V.str (Txt.join Bk ws)) vs ys → ys = (L.map (Txt.join Bk)).map V.str
  | _, _, _, .nil, h => by cases h; rfl
  | _, _, _, .cons a b, h => by
    cases h with
    | cons c d =>
      obtain ⟨q, rfl, h1⟩ := a
      obtain ⟨ws, q2, ⟨e, h2⟩, rfl⟩ := c
      cases e
      rw [h1] at h2
      have e := strs_inj (HO.tup.inj (Option.some.inj h2))
      rw [join_all b d, e]
      rfl
theorem pd_rows {H : Hp} {f : PySem.Str → List PySem.Str} : ∀ {ps : List PySem.Str} {ys : List V}, Paired (fun x y => ∃ (z : PySem.Str) (q : Addr), x = V.str z ∧ y = V.ref q ∧ H q = some (.tup ((f z).map V.str))) (ps.map V.str) ys →
    Paired (fun u ws => ∃ q, u = V.ref q ∧ H q = some (.tup (ws.map V.str))) ys (ps.map f)
  | [], _, h => by cases h; exact .nil
  | p :: ps, _, h => by
    cases h with
    | cons a b =>
      obtain ⟨z, q, e1, e2, e3⟩ := a
      cases e1
      exact .cons ⟨q, e2, e3⟩ (pd_rows b)
theorem pd_last {α β : Type} {F : α → β → Prop} : ∀ {xs : List α} {ys : List β}, Paired F xs ys → ys ≠ [] → ∃ x y, xs.getLast? = some x ∧ ys.getLast? = some y ∧ F x y
  | _, _, .nil, h => absurd rfl h
  | [x], [y], .cons a .nil, _ => ⟨x, y, rfl, rfl, a⟩
  | x :: x2 :: xs, y :: y2 :: ys, .cons a b, _ => by
    obtain ⟨u, v, h1, h2, h3⟩ := pd_last b (by simp)
    exact ⟨u, v, by rw [List.getLast?_cons_cons]; exact h1, by rw [List.getLast?_cons_cons]; exact h2, h3⟩
theorem pd_init {α β : Type} {F : α → β → Prop} : ∀ {xs : List α} {ys : List β}, Paired F xs ys → Paired F xs.dropLast ys.dropLast
  | _, _, .nil => .nil
  | [_], [_], .cons _ .nil => .nil
  | x :: x2 :: xs, y :: y2 :: ys, .cons a b => .cons a (pd_init b)
theorem pd_fn {H : Hp} {f : List PySem.Str → V} : ∀ {vs : List V} {L : List (List PySem.Str)} {ys : List V}, Paired (fun u ws => ∃ q, u = V.ref q ∧ H q = some (.tup (ws.map V.str))) vs L →
    Paired (fun u y => ∃ (ws : List PySem.Str) (q : Addr), (u = V.ref q ∧ H q = some (.tup (ws.map V.str))) ∧ y = f ws) vs ys → ys = L.map f
  | _, _, _, .nil, h => by cases h; rfl
  | _, _, _, .cons a b, h => by
    cases h with
    | cons c d =>
      obtain ⟨q, rfl, h1⟩ := a
      obtain ⟨ws, q2, ⟨e, h2⟩, rfl⟩ := c
      cases e
      rw [h1] at h2
      have e := strs_inj (HO.tup.inj (Option.some.inj h2))
      rw [pd_fn b d, e]
      rfl
theorem pd_rowsL {H : Hp} {D : Addr} {f : PySem.Str → List PySem.Str} : ∀ {ps : List PySem.Str} {ys : List V}, Paired (fun x y => ∃ (z : PySem.Str) (q : Addr), x = V.str z ∧ y = V.ref q ∧ q ≠ D ∧ H q = some (.lst ((f z).map V.str))) (ps.map V.str) ys →
    Paired (fun u ws => ∃ q, u = V.ref q ∧ H q = some (.lst (ws.map V.str))) ys (ps.map f)
  | [], _, h => by cases h; exact .nil
  | p :: ps, _, h => by
    cases h with
    | cons a b =>
      obtain ⟨z, q, e1, e2, _, e3⟩ := a
      cases e1
      exact .cons ⟨q, e2, e3⟩ (pd_rowsL b)
/-- the same place of both -/
theorem pd_atR {α β : Type} {F : α → β → Prop} : ∀ {xs : List α} {ys : List β} {j : Nat} {x : α}, Paired F xs ys → xs[j]? = some x → ∃ y, ys[j]? = some y ∧ F x y
  | _, _, _, _, .nil, h => by simp at h
  | _, _, 0, x, .cons a b, h => by
    simp at h
    exact ⟨_, rfl, h ▸ a⟩
  | _, _, j + 1, x, .cons a b, h => by
    obtain ⟨y, m, f⟩ := pd_atR (j := j) b (by simpa using h)
    exact ⟨y, by simpa using m, f⟩
theorem rows_back {H H' : Hp} : ∀ {vs : List V} {L : List (List PySem.Str)} {ys : List V}, Paired (fun u ws => ∃ q, u = V.ref q ∧ H q = some (.lst (ws.map V.str))) vs L →
    Paired (fun x y => ∃ (ws : List PySem.Str) (q : Addr) (p : Addr), (x = V.ref q ∧ H q = some (.lst (ws.map V.str))) ∧ y = V.ref p ∧ H' p = some (.tup (ws.map V.str))) vs ys →
    Paired (fun u ws => ∃ q, u = V.ref q ∧ H' q = some (.tup (ws.map V.str))) ys L
  | _, _, _, .nil, h => by cases h; exact .nil
  | _, _, _, .cons a b, h => by
    cases h with
    | cons c d =>
      obtain ⟨q, rfl, h1⟩ := a
      obtain ⟨ws, q2, p, ⟨e, h2⟩, h3, h4⟩ := c
      cases e
      rw [h1] at h2
      have e := strs_inj (HO.lst.inj (Option.some.inj h2))
      exact .cons ⟨p, h3, by rw [e]; exact h4⟩ (rows_back b d)
abbrev Lg := List (List PySem.Str) × PySem.Str
def wordsD (ws : List PySem.Str) : Dt := .tup (ws.map Dt.str)
def logD (g : Lg) : Dt := .tup [.tup (g.1.map wordsD), .str g.2]
def headT (n : Nat) : PySem.Str := "log " ++ num (n : Int)
def logT (g : Lg) : PySem.Str := Txt.join Nl (headT g.1.length :: (g.1.map (Txt.join Bk) ++ ["lock " ++ g.2]))
structure GOk (g : Lg) : Prop where
  few : g.1.length ≤ 100
  w : ∀ ws ∈ g.1, ws.length ≤ 3 ∧ ∀ x ∈ ws, x.length ≤ 100
  l : g.2.length ≤ 100
/-- the rows of words of a text -/
def rowsT (t : PySem.Str) : List (List PySem.Str) := (Txt.split t Nl).map fun l => Txt.split l Bk
def stepB : List PySem.Str → Bool
  | [a, p] => decide (V.str a = V.str "drop") && isPath p
  | [a, p, s] => decide (V.str a = V.str "put") && (isPath p && isShelf s)
  | _ => false
def lockB : List PySem.Str → Bool
  | [a, s] => decide (V.str a = V.str "lock") && isShelf s
  | _ => false
theorem step_cases {ws : List PySem.Str} (h : stepB ws = true) : (∃ y, ws = [("drop" : PySem.Str), y] ∧ isPath y = true) ∨ ∃ y s, ws = [("put" : PySem.Str), y, s] ∧ isPath y = true ∧ isShelf s = true := by
  match ws, h with
  | [a, p], h =>
    have h' : (decide (V.str a = V.str "drop") && isPath p) = true := h
    rw [Bool.and_eq_true, decide_eq_true_eq] at h'
    exact .inl ⟨p, by injection h'.1 with e; rw [e], h'.2⟩
  | [a, p, s], h =>
    have h' : (decide (V.str a = V.str "put") && (isPath p && isShelf s)) = true := h
    rw [Bool.and_eq_true, Bool.and_eq_true, decide_eq_true_eq] at h'
    exact .inr ⟨p, s, by injection h'.1 with e; rw [e], h'.2.1, h'.2.2⟩
  | [], h => cases h
  | [_], h => cases h
  | _ :: _ :: _ :: _ :: _, h => cases h
theorem lock_two {ws : List PySem.Str} (h : lockB ws = true) : ws.length = 2 := by
  match ws, h with
  | [a, s], _ => rfl
  | [], h => cases h
  | [_], h => cases h
  | _ :: _ :: _ :: _, h => cases h
def readR (rest : List (List PySem.Str)) : Option Lg := if rest.dropLast.all stepB = true ∧ lockB (rest.getLastD []) = true then some (rest.dropLast, (rest.getLastD []).getD 1 "") else none
def readG (t : PySem.Str) : Option Lg := match rowsT t with
  | [] => none
  | first :: rest => if rest ≠ [] ∧ first = [("log" : PySem.Str), num ((rest.length - 1 : Nat) : Int)] then readR rest else none
def readD (t : PySem.Str) : Dt := match readG t with | some g => logD g | none => .non
/-- a line of two words -/
theorem two_words {l a b : PySem.Str} (ha : (32 : Nat) ∉ tl a) (hb : (32 : Nat) ∉ tl b) : Txt.split l Bk = [a, b] ↔ l = a ++ " " ++ b := by
  rw [split_iff tl_bk (by decide +kernel) (by simp) (by intro p hp; simp only [List.mem_cons, List.not_mem_nil, or_false] at hp; rcases hp with e | e <;> rw [e] <;> assumption)]
  have e : Txt.join Bk [a, b] = a ++ " " ++ b := by
    refine ext_tl ?_
    rw [join_eq, tl_join, tl_append, tl_append]
    show tl a ++ (tl Bk ++ tl b) = _
    rw [List.append_assoc]
    rfl
  rw [e]
theorem head_line (l : PySem.Str) (n : Nat) : Txt.split l Bk = [("log" : PySem.Str), num (n : Int)] ↔ l = headT n := by
  rw [two_words (by decide +kernel) (num_free n (.inl (by decide)))]
  unfold headT
  rw [show (("log" : PySem.Str) ++ " " : PySem.Str) = "log " from by decide +kernel]
end DK
/-! Drawn logs, purely; what readings of texts cost. -/
namespace DK
open PySem PySem.Spec PyProof.Rows L2 TL RX
def PTH : List PySem.Str := ["a", "app/doc", "bin/b-2", "xxxxxxxxxxxxxxxxxxxx/y", "a", "a/b/c/d", "z9"]
def SHV : List PySem.Str := ["store/c0", "store/c1", "store/c7", "store/c10", "store/c123456789", "store/c1000000000000000000"]
theorem pth_ok : ∀ p ∈ PTH, isPath p = true ∧ (32 : Nat) ∉ tl p ∧ (10 : Nat) ∉ tl p ∧ p.length ≤ 22 ∧ W dg p ≤ 1 ∧ ∀ c ∈ tl p, c < 0x110000 := by decide +kernel
theorem shv_ok : ∀ p ∈ SHV, isShelf p = true ∧ (32 : Nat) ∉ tl p ∧ (10 : Nat) ∉ tl p ∧ p.length ≤ 26 ∧ W dg p ≤ 19 ∧ ∀ c ∈ tl p, c < 0x110000 := by decide +kernel
/-- a drawn step -/
def StD (ws : List PySem.Str) : Prop := (∃ p ∈ PTH, ws = [("drop" : PySem.Str), p]) ∨ ∃ p ∈ PTH, ∃ s ∈ SHV, ws = [("put" : PySem.Str), p, s]
structure LgD (g : Lg) : Prop where
  few : g.1.length ≤ 6
  st : ∀ ws ∈ g.1, StD ws
  lk : g.2 ∈ SHV
theorem StD.ok {ws : List PySem.Str} (h : StD ws) : stepB ws = true ∧ (∀ x ∈ ws, (32 : Nat) ∉ tl x ∧ (10 : Nat) ∉ tl x ∧ x.length ≤ 26 ∧ ∀ c ∈ tl x, c < 0x110000) ∧ ws.length ≤ 3 ∧ ws ≠ [] ∧ (ws.map (·.length)).sum ≤ 51 ∧ (ws.map (W dg)).sum ≤ 20 := by
  rcases h with ⟨p, hp, rfl⟩ | ⟨p, hp, s, hs, rfl⟩
  · obtain ⟨a1, a2, a3, a4, a5, a6⟩ := pth_ok p hp
    have b1 : ("drop" : PySem.Str).length = 4 := by decide +kernel
    have b2 : W dg "drop" = 0 := by decide +kernel
    refine ⟨?_, ?_, by simp, by simp, ?_, ?_⟩
    · show (decide (V.str "drop" = V.str "drop") && isPath p) = true
      rw [a1, decide_eq_true rfl]; rfl
    · intro x hx
      simp only [List.mem_cons, List.not_mem_nil, or_false] at hx
      rcases hx with rfl | rfl
      · exact ⟨by decide +kernel, by decide +kernel, by decide +kernel, by decide +kernel⟩
      · exact ⟨a2, a3, by omega, a6⟩
    · simp only [List.map_cons, List.map_nil, List.sum_cons, List.sum_nil, b1]; omega
    · simp only [List.map_cons, List.map_nil, List.sum_cons, List.sum_nil, b2]; omega
  · obtain ⟨a1, a2, a3, a4, a5, a6⟩ := pth_ok p hp
    obtain ⟨c1, c2, c3, c4, c5, c6⟩ := shv_ok s hs
    have b1 : ("put" : PySem.Str).length = 3 := by decide +kernel
    have b2 : W dg "put" = 0 := by decide +kernel
    refine ⟨?_, ?_, by simp, by simp, ?_, ?_⟩
    · show (decide (V.str "put" = V.str "put") && (isPath p && isShelf s)) = true
      rw [a1, c1, decide_eq_true rfl]; rfl
    · intro x hx
      simp only [List.mem_cons, List.not_mem_nil, or_false] at hx
      rcases hx with rfl | rfl | rfl
      · exact ⟨by decide +kernel, by decide +kernel, by decide +kernel, by decide +kernel⟩
      · exact ⟨a2, a3, by omega, a6⟩
      · exact ⟨c2, c3, by omega, c6⟩
    · simp only [List.map_cons, List.map_nil, List.sum_cons, List.sum_nil, b1]; omega
    · simp only [List.map_cons, List.map_nil, List.sum_cons, List.sum_nil, b2]; omega
theorem LgD.gok {g : Lg} (h : LgD g) : GOk g := by
  refine ⟨by have := h.few; omega, fun ws hw => ?_, ?_⟩
  · obtain ⟨_, h2, h3, _⟩ := (h.st ws hw).ok
    exact ⟨h3, fun x hx => by have := (h2 x hx).2.2.1; omega⟩
  · have := (shv_ok g.2 h.lk).2.2.2.1
    omega
theorem head_few {n : Nat} (h : n ≤ 6) : (10 : Nat) ∉ tl (headT n) ∧ (headT n).length ≤ 5 ∧ W dg (headT n) ≤ 1 ∧ ∀ c ∈ tl (headT n), c < 0x110000 := by
  have : ∀ n ∈ [0, 1, 2, 3, 4, 5, 6], (10 : Nat) ∉ tl (headT n) ∧ (headT n).length ≤ 5 ∧ W dg (headT n) ≤ 1 ∧ ∀ c ∈ tl (headT n), c < 0x110000 := by decide +kernel
  exact this n (by simp only [List.mem_cons, List.not_mem_nil, or_false]; omega)
theorem lock_line {s : PySem.Str} (h : s ∈ SHV) : (10 : Nat) ∉ tl ("lock " ++ s) ∧ ("lock " ++ s : PySem.Str).length ≤ 31 ∧ W dg ("lock " ++ s) ≤ 19 ∧ (∀ c ∈ tl ("lock " ++ s : PySem.Str), c < 0x110000) ∧ Txt.split ("lock " ++ s) Bk = [("lock" : PySem.Str), s] := by
  obtain ⟨c1, c2, c3, c4, c5, c6⟩ := shv_ok s h
  have k1 : ("lock " : PySem.Str).length = 5 := by decide +kernel
  have k2 : W dg "lock " = 0 := by decide +kernel
  have k3 : (10 : Nat) ∉ tl ("lock " : PySem.Str) := by decide +kernel
  have k4 : ∀ c ∈ tl ("lock " : PySem.Str), c < 0x110000 := by decide +kernel
  refine ⟨?_, by rw [strLen_append, k1]; omega, by rw [W_app, k2]; omega, fun c hc => ?_, ?_⟩
  · rw [tl_append, List.mem_append]
    exact fun z => z.elim k3 c3
  · rw [tl_append, List.mem_append] at hc
    exact hc.elim (k4 c) (c6 c)
  · refine (two_words (by decide +kernel) c2).mpr ?_
    rw [show (("lock" : PySem.Str) ++ " " : PySem.Str) = "lock " from by decide +kernel]
theorem step_line {ws : List PySem.Str} (h : StD ws) : (10 : Nat) ∉ tl (Txt.join Bk ws) ∧ (Txt.join Bk ws).length ≤ 54 ∧ W dg (Txt.join Bk ws) ≤ 20 ∧ (∀ c ∈ tl (Txt.join Bk ws), c < 0x110000) ∧ Txt.split (Txt.join Bk ws) Bk = ws := by
  obtain ⟨_, h2, h3, h4, h5, h6⟩ := h.ok
  refine ⟨fun m => ?_, ?_, ?_, fun c hc => ?_, (split_iff tl_bk (by decide +kernel) h4 fun p hp => (h2 p hp).1).mpr rfl⟩
  · rcases mem_join m with z | ⟨p, hp, z⟩
    · rw [tl_bk] at z; simp at z
    · exact (h2 p hp).2.1 z
  · have := join_len Bk ws
    have hb : Bk.length = 1 := by decide +kernel
    rw [hb] at this
    omega
  · have := (W_join (f := dg) Bk ws).1
    have hb : W dg Bk = 0 := by decide +kernel
    rw [hb] at this
    omega
  · rcases mem_join hc with z | ⟨p, hp, z⟩
    · rw [tl_bk] at z; simp at z; omega
    · exact (h2 p hp).2.2.2 c z
theorem LgD.rows {g : Lg} (h : LgD g) : rowsT (logT g) = [("log" : PySem.Str), num (g.1.length : Nat)] :: (g.1 ++ [[("lock" : PySem.Str), g.2]]) := by
  have e : Txt.split (logT g) Nl = headT g.1.length :: (g.1.map (Txt.join Bk) ++ ["lock " ++ g.2]) := by
    refine (split_iff tl_nl (by decide +kernel) (by simp) fun p hp => ?_).mpr rfl
    rcases List.mem_cons.mp hp with e | hp
    · rw [e]; exact (head_few h.few).1
    · rcases List.mem_append.mp hp with hp | hp
      · obtain ⟨ws, hw, rfl⟩ := List.mem_map.mp hp
        exact (step_line (h.st ws hw)).1
      · rw [List.mem_singleton.mp hp]; exact (lock_line h.lk).1
  unfold rowsT
  rw [e, List.map_cons, (head_line (headT g.1.length) g.1.length).mpr rfl, List.map_append, List.map_map]
  have e2 : g.1.map ((fun l => Txt.split l Bk) ∘ Txt.join Bk) = g.1 := by
    have : ∀ L : List (List PySem.Str), (∀ ws ∈ L, StD ws) → L.map ((fun l => Txt.split l Bk) ∘ Txt.join Bk) = L := by
      intro L
      induction L with
      | nil => intro _; rfl
      | cons a L ih =>
        intro hL
        rw [List.map_cons, ih fun ws hw => hL ws (List.mem_cons_of_mem _ hw)]
        show Txt.split (Txt.join Bk a) Bk :: L = _
        rw [(step_line (hL a List.mem_cons_self)).2.2.2.2]
    exact this g.1 h.st
  rw [e2, List.map_cons, (lock_line h.lk).2.2.2.2]
  rfl
/-- a drawn log is read from its text -/
theorem LgD.read {g : Lg} (h : LgD g) : readD (logT g) = logD g := by
  have e : readG (logT g) = some g := by
    unfold readG
    rw [h.rows]
    show (if (g.1 ++ [[("lock" : PySem.Str), g.2]]) ≠ [] ∧ _ then _ else _) = _
    rw [if_pos ⟨by simp, by rw [List.length_append]; simp⟩]
    unfold readR
    have e1 : (g.1 ++ [[("lock" : PySem.Str), g.2]]).dropLast = g.1 := by simp
    have e2 : (g.1 ++ [[("lock" : PySem.Str), g.2]]).getLastD [] = [("lock" : PySem.Str), g.2] := by rw [List.getLastD_eq_getLast?]; simp
    have e3 : lockB [("lock" : PySem.Str), g.2] = true := by
      show (decide (V.str "lock" = V.str "lock") && isShelf g.2) = true
      rw [(shv_ok g.2 h.lk).1, decide_eq_true rfl]; rfl
    rw [e1, e2, if_pos ⟨List.all_eq_true.mpr fun ws hw => (h.st ws hw).ok.1, e3⟩]
    rfl
  unfold readD
  rw [e]
theorem sum_leN {α : Type} {f : α → Nat} {m : Nat} : ∀ {L : List α}, (∀ x ∈ L, f x ≤ m) → (L.map f).sum ≤ L.length * m
  | [], _ => Nat.zero_le _
  | x :: L, h => by
    rw [List.map_cons, List.sum_cons, List.length_cons, Nat.succ_mul]
    have := sum_leN (L := L) fun y hy => h y (List.mem_cons_of_mem _ hy)
    have := h x List.mem_cons_self
    omega
theorem LgD.tm {g : Lg} (h : LgD g) : Tm 400 140 (logT g) := by
  have hl := head_few h.few
  have kl := lock_line h.lk
  have few := h.few
  refine ⟨?_, ?_, fun c hc => ?_⟩
  · have j := join_len Nl (headT g.1.length :: (g.1.map (Txt.join Bk) ++ ["lock " ++ g.2]))
    have hb : Nl.length = 1 := by decide +kernel
    have s : ((g.1.map (Txt.join Bk)).map (·.length)).sum ≤ g.1.length * 54 := by
      rw [List.map_map]
      exact sum_leN fun ws hw => (step_line (h.st ws hw)).2.1
    have m : g.1.length * 54 ≤ 6 * 54 := Nat.mul_le_mul_right _ few
    rw [List.map_cons, List.sum_cons, List.map_append, List.sum_append, List.length_cons, List.length_append, List.length_map, hb] at j
    simp only [List.map_cons, List.map_nil, List.sum_cons, List.sum_nil, List.length_cons, List.length_nil] at j
    show (Txt.join Nl _).length ≤ 400
    omega
  · have j := (W_join (f := dg) Nl (headT g.1.length :: (g.1.map (Txt.join Bk) ++ ["lock " ++ g.2]))).1
    have hb : W dg Nl = 0 := by decide +kernel
    have s : ((g.1.map (Txt.join Bk)).map (W dg)).sum ≤ g.1.length * 20 := by
      rw [List.map_map]
      exact sum_leN fun ws hw => (step_line (h.st ws hw)).2.2.1
    have m : g.1.length * 20 ≤ 6 * 20 := Nat.mul_le_mul_right _ few
    rw [List.map_cons, List.sum_cons, List.map_append, List.sum_append, hb, Nat.mul_zero] at j
    simp only [List.map_cons, List.map_nil, List.sum_cons, List.sum_nil] at j
    show W dg (Txt.join Nl _) ≤ 140
    omega
  · rcases mem_join hc with z | ⟨p, hp, z⟩
    · rw [tl_nl] at z; simp at z; omega
    · rcases List.mem_cons.mp hp with e | hp
      · rw [e] at z; exact hl.2.2.2 c z
      · rcases List.mem_append.mp hp with hp | hp
        · obtain ⟨ws, hw, rfl⟩ := List.mem_map.mp hp
          exact (step_line (h.st ws hw)).2.2.2.1 c z
        · rw [List.mem_singleton.mp hp] at z; exact kl.2.2.2.1 c z
theorem lock_pair {ws : List PySem.Str} (h : lockB ws = true) : ∃ x y, ws = [x, y] := by
  match ws, h with
  | [a, s], _ => exact ⟨a, s, rfl⟩
  | [], h => cases h
  | [_], h => cases h
  | _ :: _ :: _ :: _, h => cases h
theorem last_mem {R : List (List PySem.Str)} (h : R ≠ []) : R.getLastD [] ∈ R := by
  rw [List.getLastD_eq_getLast?]
  cases e : R.getLast? with
  | none => exact absurd (List.getLast?_eq_none_iff.mp e) h
  | some x => exact List.mem_of_getLast? e
/-! costs -/
theorem cost_strs (ws : List PySem.Str) : Dt.costAll (ws.map Dt.str) = 10 * (ws.map (·.length)).sum + 10 * ws.length := by
  induction ws with
  | nil => rfl
  | cons w ws ih =>
    rw [List.map_cons, List.map_cons, List.sum_cons, List.length_cons]
    show (10 * w.length + 10) + Dt.costAll (ws.map Dt.str) = _
    rw [ih]
    omega
theorem dep_strs : ∀ ws : List PySem.Str, Dt.depAll (ws.map Dt.str) = 0
  | [] => rfl
  | w :: ws => by
    show max 0 (Dt.depAll (ws.map Dt.str)) = 0
    rw [dep_strs ws]; rfl
theorem fine_strs : ∀ {ws : List PySem.Str}, (∀ x ∈ ws, Sg x) → FineAll (ws.map Dt.str)
  | [], _ => .nil
  | w :: ws, h => .cons (.str w (h w List.mem_cons_self)) (fine_strs fun x hx => h x (List.mem_cons_of_mem _ hx))
theorem len_W (ws : List PySem.Str) : (ws.map (·.length)).sum = (ws.map (W (fun _ => 1))).sum := by
  congr 1
  exact List.map_congr_left fun x _ => (W_one x).symm
theorem cost_rows : ∀ L : List PySem.Str, Dt.costAll (L.map fun l => wordsD (Txt.split l Bk)) ≤ 20 * (L.map (·.length)).sum + 20 * L.length
  | [] => Nat.zero_le _
  | l :: L => by
    have ih := cost_rows L
    rw [List.map_cons, List.map_cons, List.sum_cons, List.length_cons]
    show (10 + Dt.costAll ((Txt.split l Bk).map Dt.str)) + Dt.costAll (L.map fun l => wordsD (Txt.split l Bk)) ≤ _
    rw [cost_strs, len_W]
    have h1 := W_split (f := fun _ => 1) l Bk
    rw [W_one] at h1
    have h2 := split_many (x := l) tl_bk (by decide +kernel)
    omega
theorem cost_sub : ∀ {L M : List Dt}, L.Sublist M → Dt.costAll L ≤ Dt.costAll M
  | _, _, .slnil => Nat.le_refl _
  | _, _, .cons a h => by
    have := cost_sub h
    show _ ≤ Dt.cost a + _
    omega
  | _, _, .cons_cons a h => by
    have := cost_sub h
    show Dt.cost a + _ ≤ Dt.cost a + _
    omega
theorem dep_rows : ∀ R : List (List PySem.Str), Dt.depAll (R.map wordsD) ≤ 1
  | [] => Nat.zero_le _
  | ws :: R => by
    show max (Dt.depAll (ws.map Dt.str) + 1) (Dt.depAll (R.map wordsD)) ≤ 1
    rw [dep_strs]
    have := dep_rows R
    omega
theorem fine_rows : ∀ {R : List (List PySem.Str)}, (∀ ws ∈ R, ∀ x ∈ ws, Sg x) → FineAll (R.map wordsD)
  | [], _ => .nil
  | ws :: R, h => .cons (.tup (fine_strs (h ws List.mem_cons_self))) (fine_rows fun x hx => h x (List.mem_cons_of_mem _ hx))
theorem gd_rows {R : List (List PySem.Str)} {s : PySem.Str} (f : ∀ ws ∈ R, ∀ x ∈ ws, Sg x) (hs : Sg s) (hl : s.length ≤ 100000) (hc : Dt.costAll (R.map wordsD) ≤ 10000000) : Gd (logD (R, s)) := by
  refine ⟨.tup (.cons (.tup (fine_rows f)) (.cons (.str s hs) .nil)), ?_, ?_⟩
  · show max (Dt.depAll (R.map wordsD) + 1) (max 0 0) + 1 ≤ 59
    have := dep_rows R
    omega
  · show 10 + ((10 + Dt.costAll (R.map wordsD)) + ((10 * s.length + 10) + 0)) ≤ 16000000
    omega
/-- what is read of a text prints within bounds -/
theorem gd_read {t : PySem.Str} {n g : Nat} (h : Tm n g t) (hn : n ≤ 10000) : Gd (readD t) := by
  unfold readD
  cases e : readG t with
  | none => exact ⟨.non, Nat.zero_le _, by show 10 ≤ _; omega⟩
  | some a =>
    unfold readG at e
    cases hr : rowsT t with
    | nil => rw [hr] at e; cases e
    | cons first rest =>
      rw [hr] at e
      have e' : (if rest ≠ [] ∧ first = [("log" : PySem.Str), num ((rest.length - 1 : Nat) : Int)] then readR rest else none) = some a := e
      by_cases c : rest ≠ [] ∧ first = [("log" : PySem.Str), num ((rest.length - 1 : Nat) : Int)]
      · rw [if_pos c] at e'
        unfold readR at e'
        by_cases c2 : rest.dropLast.all stepB = true ∧ lockB (rest.getLastD []) = true
        · rw [if_pos c2] at e'
          cases e'
          have ok : ∀ ws ∈ rowsT t, ∀ x ∈ ws, Tm n g x := fun ws hw x hx => by
            unfold rowsT at hw
            obtain ⟨y, hy, rfl⟩ := List.mem_map.mp hw
            exact (h.piece tl_nl (by decide +kernel) hy).piece tl_bk (by decide +kernel) hx
          have sg : ∀ {x : PySem.Str}, Tm n g x → Sg x := fun t => OkS.sg t.ok (by have := t.len; omega)
          rw [hr] at ok
          refine gd_rows (fun ws hw x hx => sg (ok ws (List.mem_cons_of_mem _ (List.dropLast_subset _ hw)) x hx)) ?_ ?_ ?_
          · obtain ⟨x, y, ex⟩ := lock_pair c2.2
            rw [ex]
            have : [x, y] ∈ rest := by rw [← ex]; exact last_mem c.1
            exact sg (ok _ (List.mem_cons_of_mem _ this) y (by simp))
          · obtain ⟨x, y, ex⟩ := lock_pair c2.2
            rw [ex]
            have : [x, y] ∈ rest := by rw [← ex]; exact last_mem c.1
            have := (ok _ (List.mem_cons_of_mem _ this) y (by simp)).len
            show y.length ≤ _
            omega
          · have c1 := cost_rows (Txt.split t Nl)
            have h1 := W_split (f := fun _ => 1) t Nl
            rw [W_one, ← len_W] at h1
            have h2 := split_many (x := t) tl_nl (by decide +kernel)
            have h3 : (rest.dropLast.map wordsD).Sublist ((Txt.split t Nl).map fun l => wordsD (Txt.split l Bk)) := by
              have e3 : ((Txt.split t Nl).map fun l => wordsD (Txt.split l Bk)) = (rowsT t).map wordsD := by unfold rowsT; rw [List.map_map]; rfl
              rw [e3, hr]
              exact ((List.dropLast_sublist rest).trans (List.sublist_cons_self _ _)).map _
            have h4 := cost_sub h3
            have := h.len
            omega
        · rw [if_neg c2] at e'; cases e'
      · rw [if_neg c] at e'; cases e'
end DK
/-! Texts near one, purely. -/
namespace DK
open PySem PySem.Spec PyProof.Rows L2 TL RX
theorem tl_drop (x : PySem.Str) (k : Nat) : tl (cutS x (some (k : Nat)) none) = (tl x).drop k := by
  show ((x.cps.toList.drop (HT.sIx x.length 0 (some ((k : Nat) : Int)))).take (HT.sIx x.length x.length none - HT.sIx x.length 0 (some ((k : Nat) : Int)))) = _
  rw [HT.sIx_nat, HT.sIx_none]
  have l : x.cps.toList.length = x.length := (len_tl x).symm
  by_cases e : k ≤ x.length
  · rw [Nat.min_eq_left e, List.take_of_length_le (by rw [List.length_drop, l]; exact Nat.le_refl _)]
  · rw [Nat.min_eq_right (by omega), Nat.sub_self, List.take_zero, List.drop_eq_nil_of_le (by rw [← len_tl]; omega)]
theorem take_drop_sub {α : Type} (l : List α) {a b : Nat} (h : a ≤ b) : (l.take a ++ l.drop b).Sublist l := by
  have : (l.take a ++ l.drop b).Sublist (l.take b ++ l.drop b) := ((List.take_prefix_take_left h).sublist).append (List.Sublist.refl _)
  rwa [List.take_append_drop] at this
section
variable {f : Nat → Nat}
theorem W_joinL_ge (S : List Nat) : ∀ ps : List (List Nat), (ps.map fun p => (p.map f).sum).sum + (ps.length - 1) * (S.map f).sum ≤ ((joinL S ps).map f).sum
  | [] => by simp
  | [p] => by
    show ((p.map f).sum + 0) + 0 * _ ≤ (p.map f).sum
    omega
  | p :: q :: r => by
    have ih := W_joinL_ge S (q :: r)
    have e : ((joinL S (p :: q :: r)).map f).sum = (p.map f).sum + ((S.map f).sum + ((joinL S (q :: r)).map f).sum) := by
      show ((p ++ (S ++ joinL S (q :: r))).map f).sum = _
      rw [List.map_append, List.map_append, List.sum_append, List.sum_append]
    rw [e, List.map_cons, List.sum_cons]
    have e2 : (p :: q :: r).length - 1 = ((q :: r).length - 1) + 1 := by simp
    rw [e2, Nat.succ_mul]
    omega
theorem W_split_ge (x y : PySem.Str) : ((Txt.split x y).map (W f)).sum + ((Txt.split x y).length - 1) * W f y ≤ W f x := by
  have h := W_joinL_ge (f := f) (tl y) ((Txt.split x y).map tl)
  have e := StrLaws.join_split x y
  rw [← tl_join, e, List.map_map, List.length_map] at h
  exact h
end
theorem lines_sum {n g : Nat} {t : PySem.Str} (h : Tm n g t) : ((Txt.split t Nl).map (·.length)).sum + (Txt.split t Nl).length ≤ n + 1 ∧ ((Txt.split t Nl).map (W dg)).sum ≤ g ∧ ∀ p ∈ Txt.split t Nl, OkS p := by
  refine ⟨?_, Nat.le_trans (W_split t Nl) h.dig, fun p hp => (h.piece tl_nl (by decide +kernel) hp).ok⟩
  have w := W_split_ge (f := fun _ => 1) t Nl
  rw [W_one, W_one, ← len_W, show Nl.length = 1 from by decide +kernel, Nat.mul_one] at w
  have := h.len
  have : 1 ≤ (Txt.split t Nl).length := List.length_pos_iff.mpr (split_ne tl_nl (by decide +kernel))
  omega
theorem tm_join {ps : List PySem.Str} {A B C : Nat} (h1 : (ps.map (·.length)).sum ≤ A) (h2 : (ps.map (W dg)).sum ≤ B) (h3 : ps.length ≤ C) (ok : ∀ p ∈ ps, OkS p) : Tm (A + C) B (Txt.join Nl ps) := by
  refine ⟨?_, ?_, fun c hc => ?_⟩
  · have := join_len Nl ps
    have hb : Nl.length = 1 := by decide +kernel
    rw [hb] at this
    omega
  · have := (W_join (f := dg) Nl ps).1
    have hb : W dg Nl = 0 := by decide +kernel
    rw [hb] at this
    omega
  · rcases mem_join hc with z | ⟨p, hp, z⟩
    · rw [tl_nl] at z; simp at z; omega
    · exact ok p hp c z
theorem sum_len_sub {l m : List PySem.Str} (h : l.Sublist m) : (l.map (·.length)).sum ≤ (m.map (·.length)).sum := by
  rw [len_W, len_W]
  exact sum_subS h
/-- the short odd lines -/
structure Odd (x : PySem.Str) : Prop where
  l : x.length ≤ 15
  d : W dg x ≤ 3
  o : OkS x
section
variable {n g : Nat} {t : PySem.Str} (h : Tm n g t)
include h
theorem near_out (k : Nat) : Tm (2 * n + 20) (2 * g) (Txt.join Nl ((Txt.split t Nl).take k ++ (Txt.split t Nl).drop (k + 1))) := by
  obtain ⟨a, b, c⟩ := lines_sum h
  have s := take_drop_sub (Txt.split t Nl) (show k ≤ k + 1 by omega)
  exact (tm_join (sum_len_sub s) (Nat.le_trans (sum_subS s) b) s.length_le fun p hp => c p (s.mem hp)).up (by omega) (by omega)
theorem near_odd (k : Nat) {x : PySem.Str} (o : Odd x) (hg : 3 ≤ g) : Tm (2 * n + 20) (2 * g) (Txt.join Nl ((Txt.split t Nl).take k ++ [x] ++ (Txt.split t Nl).drop (k + 1))) := by
  obtain ⟨a, b, c⟩ := lines_sum h
  have s := take_drop_sub (Txt.split t Nl) (show k ≤ k + 1 by omega)
  have s1 := sum_len_sub s
  have s2 := sum_subS (f := dg) s
  have s3 := s.length_le
  have ol := o.l
  have od := o.d
  rw [List.map_append, List.sum_append] at s1 s2
  rw [List.length_append] at s3
  refine (tm_join (A := n + 16) (B := g + 3) (C := (Txt.split t Nl).length + 1) ?_ ?_ ?_ fun p hp => ?_).up ?_ (by omega)
  · rw [List.map_append, List.map_append, List.sum_append, List.sum_append, List.map_cons, List.map_nil, List.sum_cons, List.sum_nil]
    omega
  · rw [List.map_append, List.map_append, List.sum_append, List.sum_append, List.map_cons, List.map_nil, List.sum_cons, List.sum_nil]
    omega
  · rw [List.length_append, List.length_append, List.length_singleton]
    omega
  · rcases List.mem_append.mp hp with hp | hp
    · rcases List.mem_append.mp hp with hp | hp
      · exact c p (List.mem_of_mem_take hp)
      · rw [List.mem_singleton.mp hp]; exact o.o
    · exact c p (List.mem_of_mem_drop hp)
  · omega
theorem near_twice (k : Nat) : Tm (2 * n + 20) (2 * g) (Txt.join Nl ((Txt.split t Nl).take (k + 1) ++ (Txt.split t Nl).drop k)) := by
  obtain ⟨a, b, c⟩ := lines_sum h
  have s1 := sum_len_sub (List.take_sublist (k + 1) (Txt.split t Nl))
  have s2 := sum_len_sub (List.drop_sublist k (Txt.split t Nl))
  have d1 := sum_subS (f := dg) (List.take_sublist (k + 1) (Txt.split t Nl))
  have d2 := sum_subS (f := dg) (List.drop_sublist k (Txt.split t Nl))
  refine (tm_join (A := 2 * ((Txt.split t Nl).map (·.length)).sum) (B := 2 * g) (C := (Txt.split t Nl).length + 1) ?_ ?_ ?_ fun p hp => ?_).up (by omega) (Nat.le_refl _)
  · rw [List.map_append, List.sum_append]; omega
  · rw [List.map_append, List.sum_append]; omega
  · rw [List.length_append, List.length_take, List.length_drop]; omega
  · rcases List.mem_append.mp hp with hp | hp
    · exact c p (List.mem_of_mem_take hp)
    · exact c p (List.mem_of_mem_drop hp)
theorem near_sign (a b : Nat) (hab : a ≤ b) {x : PySem.Str} (hx : x.length ≤ 1) (ox : OkS x) (hg : 3 ≤ g) : Tm (2 * n + 20) (2 * g) (cutS t none (some (a : Nat)) ++ x ++ cutS t (some (b : Nat)) none) := by
  have s := take_drop_sub (tl t) hab
  have e1 : (cutS t none (some (a : Nat))).length = ((tl t).take a).length := by rw [len_tl, tl_take]
  have e2 : (cutS t (some (b : Nat)) none).length = ((tl t).drop b).length := by rw [len_tl, tl_drop]
  refine ⟨?_, ?_, fun c hc => ?_⟩
  · rw [strLen_append, strLen_append, e1, e2]
    have := s.length_le
    rw [List.length_append, ← len_tl] at this
    have := h.len
    omega
  · rw [W_app, W_app]
    have s2 := sum_sub (f := dg) s
    rw [List.map_append, List.sum_append] at s2
    have d1 : W dg (cutS t none (some (a : Nat))) = (((tl t).take a).map dg).sum := by unfold W; rw [tl_take]
    have d2 : W dg (cutS t (some (b : Nat)) none) = (((tl t).drop b).map dg).sum := by unfold W; rw [tl_drop]
    have d3 : (((tl t).map dg).sum) ≤ g := h.dig
    have d4 := W_dg_le x
    rw [d1, d2]
    omega
  · rw [tl_append, tl_append] at hc
    rcases List.mem_append.mp hc with hc | hc
    · rcases List.mem_append.mp hc with hc | hc
      · rw [tl_take] at hc; exact h.ok c (List.mem_of_mem_take hc)
      · exact ox c hc
    · rw [tl_drop] at hc; exact h.ok c (List.mem_of_mem_drop hc)
theorem near_cut (a : Nat) : Tm (2 * n + 20) (2 * g) (cutS t none (some (a : Nat))) := (h.cut _ _).up (by omega) (by omega)
end
def oddB (x : PySem.Str) : Bool := decide (x.length ≤ 15) && decide (W dg x ≤ 3) && (tl x).all fun c => decide (c < 0x110000)
theorem odd_of {x : PySem.Str} (h : oddB x = true) : Odd x := by
  unfold oddB at h
  simp only [Bool.and_eq_true, decide_eq_true_eq, List.all_eq_true] at h
  exact ⟨h.1.1, h.1.2, h.2⟩
end DK
/-! Manifests, purely; lines of texts near one. -/
namespace DK
open PySem PySem.Spec PyProof.Rows L2 TL RX
def ascB (fs : List PySem.Str) : List Bool := List.zipWith (fun a b => decide (a.cps.toList < b.cps.toList)) fs fs.tail
theorem asc_len (fs : List PySem.Str) : (ascB fs).length = fs.length - 1 := by
  unfold ascB
  rw [List.length_zipWith, List.length_tail]
  omega
theorem asc_iff : ∀ fs : List PySem.Str, (ascB fs).all id = true ↔ fs.Pairwise fun a b => a.cps.toList < b.cps.toList
  | [] => by simp [ascB]
  | [a] => by simp [ascB]
  | a :: b :: r => by
    have ih := asc_iff (b :: r)
    have e : ascB (a :: b :: r) = decide (a.cps.toList < b.cps.toList) :: ascB (b :: r) := rfl
    rw [e, List.all_cons, Bool.and_eq_true, ih]
    refine ⟨fun ⟨h1, h2⟩ => ?_, fun h => ?_⟩
    · have h1' : a.cps.toList < b.cps.toList := of_decide_eq_true h1
      refine List.Pairwise.cons (fun c hc => ?_) h2
      rcases List.mem_cons.mp hc with z | z
      · rw [z]; exact h1'
      · exact List.lt_trans h1' ((List.pairwise_cons.mp h2).1 c z)
    · obtain ⟨h1, h2⟩ := List.pairwise_cons.mp h
      exact ⟨decide_eq_true (h1 b List.mem_cons_self), h2⟩
theorem pair_rising : ∀ (r : List PySem.Str) (x : PySem.Str), (x :: r).Pairwise (fun a b => a.cps.toList < b.cps.toList) → risingS x r = true
  | [], _, _ => rfl
  | y :: r, x, h => by
    obtain ⟨h1, h2⟩ := List.pairwise_cons.mp h
    have z : x.cps.toList < y.cps.toList := h1 y List.mem_cons_self
    have ih := pair_rising r y h2
    unfold risingS
    rw [ih]
    have z2 : ¬ y.cps.toList < x.cps.toList := fun q => List.lt_irrefl _ (List.lt_trans z q)
    rw [ltCps_eq, decide_eq_false z2]
    rfl
theorem asc_all (fs : List PySem.Str) : (ascB fs).all id = true ↔ TX.Asc fs := by
  rw [asc_iff]
  refine ⟨fun h => ⟨?_, ?_⟩, fun h => ?_⟩
  · cases fs with
    | nil => rfl
    | cons x r => exact pair_rising r x h
  · exact h.imp fun z e => by rw [e] at z; exact absurd z (List.lt_irrefl _)
  · have p1 := TX.sorted_pair h.1
    have p2 : fs.Pairwise (· ≠ ·) := h.2
    refine (p1.and p2).imp fun {a b} ⟨z1, z2⟩ => ?_
    by_cases q : a.cps.toList < b.cps.toList
    · exact q
    · exact absurd (TX.str_ext (List.le_antisymm z1 (List.not_lt.mp q))) z2
def ascD (fs : List PySem.Str) : Bool := (ascB fs).all id
def hd (ws : List PySem.Str) : PySem.Str := ws.headD ""
def entB : List PySem.Str → Bool
  | [p, s] => isPath p && isShelf s
  | _ => false
def lockM : List PySem.Str → Bool
  | [a, x] => decide (V.str a = V.str "lock") && (decide (V.str x = V.str "-") || isShelf x)
  | _ => false
theorem ent_two {ws : List PySem.Str} (h : entB ws = true) : ∃ p s, ws = [p, s] ∧ isPath p = true ∧ isShelf s = true := by
  match ws, h with
  | [p, s], h =>
    have h' : (isPath p && isShelf s) = true := h
    rw [Bool.and_eq_true] at h'
    exact ⟨p, s, rfl, h'.1, h'.2⟩
  | [], h => cases h
  | [_], h => cases h
  | _ :: _ :: _ :: _, h => cases h
theorem lockM_two {ws : List PySem.Str} (h : lockM ws = true) : ∃ a x, ws = [a, x] := by
  match ws, h with
  | [a, x], _ => exact ⟨a, x, rfl⟩
  | [], h => cases h
  | [_], h => cases h
  | _ :: _ :: _ :: _, h => cases h
def lkD (x : PySem.Str) : Dt := if V.str x = V.str "-" then .non else .str x
def mfD (m : Lg) : Dt := .tup [.tup (m.1.map wordsD), lkD m.2]
def headM (n : Nat) : PySem.Str := "entries " ++ num (n : Int)
def mfT (m : Lg) : PySem.Str := Txt.join Nl (headM m.1.length :: (m.1.map (Txt.join Bk) ++ ["lock " ++ m.2]))
def readRM (rest : List (List PySem.Str)) : Option Lg := if rest.dropLast.all entB = true ∧ ascD (rest.dropLast.map hd) = true ∧ lockM (rest.getLastD []) = true then some (rest.dropLast, (rest.getLastD []).getD 1 "") else none
def readGM (t : PySem.Str) : Option Lg := match rowsT t with
  | [] => none
  | first :: rest => if rest ≠ [] ∧ first = [("entries" : PySem.Str), num ((rest.length - 1 : Nat) : Int)] then readRM rest else none
def readDM (t : PySem.Str) : Dt := match readGM t with | some g => mfD g | none => .non
theorem head_lineM (l : PySem.Str) (n : Nat) : Txt.split l Bk = [("entries" : PySem.Str), num (n : Int)] ↔ l = headM n := by
  rw [two_words (by decide +kernel) (num_free n (.inl (by decide)))]
  unfold headM
  rw [show (("entries" : PySem.Str) ++ " " : PySem.Str) = "entries " from by decide +kernel]
/-! drawn manifests -/
def PTM : List PySem.Str := ["a", "a-b", "a/b", "app/doc", "b", "xxxxxxxxxxxxxxxxxxxx", "z9"]
def SHM : List PySem.Str := SHV ++ [("-" : PySem.Str)]
theorem ptm_ok : ∀ p ∈ PTM, isPath p = true ∧ (32 : Nat) ∉ tl p ∧ (10 : Nat) ∉ tl p ∧ p.length ≤ 22 ∧ W dg p ≤ 1 ∧ ∀ c ∈ tl p, c < 0x110000 := by decide +kernel
theorem shm_ok : ∀ p ∈ SHM, (V.str p = V.str "-" ∨ isShelf p = true) ∧ (32 : Nat) ∉ tl p ∧ (10 : Nat) ∉ tl p ∧ p.length ≤ 26 ∧ W dg p ≤ 19 ∧ ∀ c ∈ tl p, c < 0x110000 := by decide +kernel
theorem shv_plain : ∀ p ∈ SHV, ¬ V.str p = V.str "-" := by decide +kernel
def EnD (ws : List PySem.Str) : Prop := ∃ p ∈ PTM, ∃ s ∈ SHV, ws = [p, s]
structure MfD (g : Lg) : Prop where
  few : g.1.length ≤ 7
  st : ∀ ws ∈ g.1, EnD ws
  asc : TX.Asc (g.1.map hd)
  lk : g.2 ∈ SHM
theorem EnD.ok {ws : List PySem.Str} (h : EnD ws) : entB ws = true ∧ (∀ x ∈ ws, (32 : Nat) ∉ tl x ∧ (10 : Nat) ∉ tl x ∧ x.length ≤ 26 ∧ ∀ c ∈ tl x, c < 0x110000) ∧ ws.length ≤ 3 ∧ ws ≠ [] ∧ (ws.map (·.length)).sum ≤ 48 ∧ (ws.map (W dg)).sum ≤ 20 := by
  obtain ⟨p, hp, s, hs, rfl⟩ := h
  obtain ⟨a1, a2, a3, a4, a5, a6⟩ := ptm_ok p hp
  obtain ⟨c1, c2, c3, c4, c5, c6⟩ := shv_ok s hs
  refine ⟨?_, ?_, by simp, by simp, ?_, ?_⟩
  · show (isPath p && isShelf s) = true
    rw [a1, c1]; rfl
  · intro x hx
    simp only [List.mem_cons, List.not_mem_nil, or_false] at hx
    rcases hx with rfl | rfl
    · exact ⟨a2, a3, by omega, a6⟩
    · exact ⟨c2, c3, by omega, c6⟩
  · simp only [List.map_cons, List.map_nil, List.sum_cons, List.sum_nil]; omega
  · simp only [List.map_cons, List.map_nil, List.sum_cons, List.sum_nil]; omega
theorem MfD.gok {g : Lg} (h : MfD g) : GOk g := by
  refine ⟨by have := h.few; omega, fun ws hw => ?_, ?_⟩
  · obtain ⟨_, h2, h3, _⟩ := (h.st ws hw).ok
    exact ⟨h3, fun x hx => by have := (h2 x hx).2.2.1; omega⟩
  · have := (shm_ok g.2 h.lk).2.2.2.1
    omega
theorem head_fewM {n : Nat} (h : n ≤ 7) : (10 : Nat) ∉ tl (headM n) ∧ (headM n).length ≤ 9 ∧ W dg (headM n) ≤ 1 ∧ ∀ c ∈ tl (headM n), c < 0x110000 := by
  have : ∀ n ∈ [0, 1, 2, 3, 4, 5, 6, 7], (10 : Nat) ∉ tl (headM n) ∧ (headM n).length ≤ 9 ∧ W dg (headM n) ≤ 1 ∧ ∀ c ∈ tl (headM n), c < 0x110000 := by decide +kernel
  exact this n (by simp only [List.mem_cons, List.not_mem_nil, or_false]; omega)
theorem lock_lineM {s : PySem.Str} (h : s ∈ SHM) : (10 : Nat) ∉ tl ("lock " ++ s) ∧ ("lock " ++ s : PySem.Str).length ≤ 31 ∧ W dg ("lock " ++ s) ≤ 19 ∧ (∀ c ∈ tl ("lock " ++ s : PySem.Str), c < 0x110000) ∧ Txt.split ("lock " ++ s) Bk = [("lock" : PySem.Str), s] := by
  obtain ⟨c1, c2, c3, c4, c5, c6⟩ := shm_ok s h
  have k1 : ("lock " : PySem.Str).length = 5 := by decide +kernel
  have k2 : W dg "lock " = 0 := by decide +kernel
  have k3 : (10 : Nat) ∉ tl ("lock " : PySem.Str) := by decide +kernel
  have k4 : ∀ c ∈ tl ("lock " : PySem.Str), c < 0x110000 := by decide +kernel
  refine ⟨?_, by rw [strLen_append, k1]; omega, by rw [W_app, k2]; omega, fun c hc => ?_, ?_⟩
  · rw [tl_append, List.mem_append]
    exact fun z => z.elim k3 c3
  · rw [tl_append, List.mem_append] at hc
    exact hc.elim (k4 c) (c6 c)
  · refine (two_words (by decide +kernel) c2).mpr ?_
    rw [show (("lock" : PySem.Str) ++ " " : PySem.Str) = "lock " from by decide +kernel]
theorem ent_line {ws : List PySem.Str} (h : EnD ws) : (10 : Nat) ∉ tl (Txt.join Bk ws) ∧ (Txt.join Bk ws).length ≤ 51 ∧ W dg (Txt.join Bk ws) ≤ 20 ∧ (∀ c ∈ tl (Txt.join Bk ws), c < 0x110000) ∧ Txt.split (Txt.join Bk ws) Bk = ws := by
  obtain ⟨_, h2, h3, h4, h5, h6⟩ := h.ok
  refine ⟨fun m => ?_, ?_, ?_, fun c hc => ?_, (split_iff tl_bk (by decide +kernel) h4 fun p hp => (h2 p hp).1).mpr rfl⟩
  · rcases mem_join m with z | ⟨p, hp, z⟩
    · rw [tl_bk] at z; simp at z
    · exact (h2 p hp).2.1 z
  · have := join_len Bk ws
    have hb : Bk.length = 1 := by decide +kernel
    rw [hb] at this
    omega
  · have := (W_join (f := dg) Bk ws).1
    have hb : W dg Bk = 0 := by decide +kernel
    rw [hb] at this
    omega
  · rcases mem_join hc with z | ⟨p, hp, z⟩
    · rw [tl_bk] at z; simp at z; omega
    · exact (h2 p hp).2.2.2 c z
theorem MfD.split {g : Lg} (h : MfD g) : Txt.split (mfT g) Nl = headM g.1.length :: (g.1.map (Txt.join Bk) ++ ["lock " ++ g.2]) := by
  refine (split_iff tl_nl (by decide +kernel) (by simp) fun p hp => ?_).mpr rfl
  rcases List.mem_cons.mp hp with e | hp
  · rw [e]; exact (head_fewM h.few).1
  · rcases List.mem_append.mp hp with hp | hp
    · obtain ⟨ws, hw, rfl⟩ := List.mem_map.mp hp
      exact (ent_line (h.st ws hw)).1
    · rw [List.mem_singleton.mp hp]; exact (lock_lineM h.lk).1
theorem MfD.lines {g : Lg} (h : MfD g) : ∀ l ∈ Txt.split (mfT g) Nl, W dg l ≤ 20 := fun p hp => by
  rw [h.split] at hp
  rcases List.mem_cons.mp hp with e | hp
  · rw [e]; have := (head_fewM h.few).2.2.1; omega
  · rcases List.mem_append.mp hp with hp | hp
    · obtain ⟨ws, hw, rfl⟩ := List.mem_map.mp hp
      exact (ent_line (h.st ws hw)).2.2.1
    · rw [List.mem_singleton.mp hp]; have := (lock_lineM h.lk).2.2.1; omega
theorem MfD.rows {g : Lg} (h : MfD g) : rowsT (mfT g) = [("entries" : PySem.Str), num (g.1.length : Nat)] :: (g.1 ++ [[("lock" : PySem.Str), g.2]]) := by
  have e := h.split
  unfold rowsT
  rw [e, List.map_cons, (head_lineM (headM g.1.length) g.1.length).mpr rfl, List.map_append, List.map_map]
  have e2 : g.1.map ((fun l => Txt.split l Bk) ∘ Txt.join Bk) = g.1 := by
    have : ∀ L : List (List PySem.Str), (∀ ws ∈ L, EnD ws) → L.map ((fun l => Txt.split l Bk) ∘ Txt.join Bk) = L := by
      intro L
      induction L with
      | nil => intro _; rfl
      | cons a L ih =>
        intro hL
        rw [List.map_cons, ih fun ws hw => hL ws (List.mem_cons_of_mem _ hw)]
        show Txt.split (Txt.join Bk a) Bk :: L = _
        rw [(ent_line (hL a List.mem_cons_self)).2.2.2.2]
    exact this g.1 h.st
  rw [e2, List.map_cons, (lock_lineM h.lk).2.2.2.2]
  rfl
theorem MfD.read {g : Lg} (h : MfD g) : readDM (mfT g) = mfD g := by
  have e : readGM (mfT g) = some g := by
    unfold readGM
    rw [h.rows]
    show (if (g.1 ++ [[("lock" : PySem.Str), g.2]]) ≠ [] ∧ _ then _ else _) = _
    rw [if_pos ⟨by simp, by rw [List.length_append]; simp⟩]
    unfold readRM
    have e1 : (g.1 ++ [[("lock" : PySem.Str), g.2]]).dropLast = g.1 := by simp
    have e2 : (g.1 ++ [[("lock" : PySem.Str), g.2]]).getLastD [] = [("lock" : PySem.Str), g.2] := by rw [List.getLastD_eq_getLast?]; simp
    have e3 : lockM [("lock" : PySem.Str), g.2] = true := by
      show (decide (V.str "lock" = V.str "lock") && (decide (V.str g.2 = V.str "-") || isShelf g.2)) = true
      rcases (shm_ok g.2 h.lk).1 with z | z
      · rw [decide_eq_true z, decide_eq_true rfl]; rfl
      · rw [z, decide_eq_true rfl, Bool.or_true]; rfl
    rw [e1, e2, if_pos ⟨List.all_eq_true.mpr fun ws hw => (h.st ws hw).ok.1, (asc_all _).mpr h.asc, e3⟩]
    rfl
  unfold readDM
  rw [e]
/-- signs that end lines -/
def nw (c : Nat) : Nat := if c = 10 then 1 else 0
/-- its lines are few too -/
structure Tl (n g k : Nat) (x : PySem.Str) : Prop where
  t : Tm n g x
  l : W nw x ≤ k
theorem Tl.up {n g k n' g' k' : Nat} {x : PySem.Str} (h : Tl n g k x) (a : n ≤ n') (b : g ≤ g') (c : k ≤ k') : Tl n' g' k' x := ⟨h.t.up a b, Nat.le_trans h.l c⟩
theorem nw_nl : W nw Nl = 1 := by decide +kernel
theorem Tl.lines {n g k : Nat} {x : PySem.Str} (h : Tl n g k x) : ((Txt.split x Nl).map (W nw)).sum + (Txt.split x Nl).length ≤ k + 1 := by
  have w := W_split_ge (f := nw) x Nl
  rw [nw_nl, Nat.mul_one] at w
  have := h.l
  have : 1 ≤ (Txt.split x Nl).length := List.length_pos_iff.mpr (split_ne tl_nl (by decide +kernel))
  omega
theorem MfD.tm {g : Lg} (h : MfD g) : Tl 420 170 9 (mfT g) := by
  have hl := head_fewM h.few
  have kl := lock_lineM h.lk
  have few := h.few
  have ff : ∀ p : PySem.Str, (10 : Nat) ∉ tl p → W nw p = 0 := fun p hp => by
    unfold W
    have : ∀ l : List Nat, (10 : Nat) ∉ l → (l.map nw).sum = 0 := by
      intro l
      induction l with
      | nil => intro _; rfl
      | cons c l ih =>
        intro hc
        rw [List.map_cons, List.sum_cons, ih fun z => hc (List.mem_cons_of_mem _ z)]
        have : nw c = 0 := if_neg fun e => hc (by rw [e]; exact List.mem_cons_self)
        rw [this]
    exact this _ hp
  refine ⟨⟨?_, ?_, fun c hc => ?_⟩, ?_⟩
  · have j := join_len Nl (headM g.1.length :: (g.1.map (Txt.join Bk) ++ ["lock " ++ g.2]))
    have hb : Nl.length = 1 := by decide +kernel
    have s : ((g.1.map (Txt.join Bk)).map (·.length)).sum ≤ g.1.length * 51 := by
      rw [List.map_map]
      exact sum_leN fun ws hw => (ent_line (h.st ws hw)).2.1
    have m : g.1.length * 51 ≤ 7 * 51 := Nat.mul_le_mul_right _ few
    rw [List.map_cons, List.sum_cons, List.map_append, List.sum_append, List.length_cons, List.length_append, List.length_map, hb] at j
    simp only [List.map_cons, List.map_nil, List.sum_cons, List.sum_nil, List.length_cons, List.length_nil] at j
    show (Txt.join Nl _).length ≤ 420
    omega
  · have j := (W_join (f := dg) Nl (headM g.1.length :: (g.1.map (Txt.join Bk) ++ ["lock " ++ g.2]))).1
    have hb : W dg Nl = 0 := by decide +kernel
    have s : ((g.1.map (Txt.join Bk)).map (W dg)).sum ≤ g.1.length * 20 := by
      rw [List.map_map]
      exact sum_leN fun ws hw => (ent_line (h.st ws hw)).2.2.1
    have m : g.1.length * 20 ≤ 7 * 20 := Nat.mul_le_mul_right _ few
    rw [List.map_cons, List.sum_cons, List.map_append, List.sum_append, hb, Nat.mul_zero] at j
    simp only [List.map_cons, List.map_nil, List.sum_cons, List.sum_nil] at j
    show W dg (Txt.join Nl _) ≤ 170
    omega
  · rcases mem_join hc with z | ⟨p, hp, z⟩
    · rw [tl_nl] at z; simp at z; omega
    · rcases List.mem_cons.mp hp with e | hp
      · rw [e] at z; exact hl.2.2.2 c z
      · rcases List.mem_append.mp hp with hp | hp
        · obtain ⟨ws, hw, rfl⟩ := List.mem_map.mp hp
          exact (ent_line (h.st ws hw)).2.2.2.1 c z
        · rw [List.mem_singleton.mp hp] at z; exact kl.2.2.2.1 c z
  · have j := (W_join (f := nw) Nl (headM g.1.length :: (g.1.map (Txt.join Bk) ++ ["lock " ++ g.2]))).1
    have s : ((g.1.map (Txt.join Bk)).map (W nw)).sum ≤ g.1.length * 0 := by
      rw [List.map_map]
      exact sum_leN fun ws hw => Nat.le_of_eq (ff _ (ent_line (h.st ws hw)).1)
    rw [Nat.mul_zero] at s
    have e1 := ff _ hl.1
    have e2 := ff _ kl.1
    rw [List.map_cons, List.sum_cons, List.map_append, List.sum_append, List.length_cons, List.length_append, List.length_map, nw_nl] at j
    simp only [List.map_cons, List.map_nil, List.sum_cons, List.sum_nil, List.length_cons, List.length_nil] at j
    show W nw (Txt.join Nl _) ≤ 9
    omega
end DK
/-! Texts near a manifest's; what is read prints. -/
namespace DK
open PySem PySem.Spec PyProof.Rows L2 TL RX
theorem nw_join {ps : List PySem.Str} : W nw (Txt.join Nl ps) ≤ (ps.map (W nw)).sum + ps.length := by
  have := (W_join (f := nw) Nl ps).1
  rw [nw_nl, Nat.mul_one] at this
  exact this
theorem sum_perm {f : PySem.Str → Nat} {xs ys : List PySem.Str} (p : xs.Perm ys) : (xs.map f).sum = (ys.map f).sum := (p.map f).sum_nat
theorem cutV_last (xs : List V) : cutV xs (some (-1)) none = xs.drop (xs.length - 1) := by
  show (xs.drop (if (-1 : Int) < 0 then ((-1 : Int) + (xs.length : Int)).toNat else min (-1 : Int).toNat xs.length)).take (HT.sIx xs.length xs.length none - (if (-1 : Int) < 0 then ((-1 : Int) + (xs.length : Int)).toNat else min (-1 : Int).toNat xs.length)) = _
  rw [if_pos (by decide), HT.sIx_none]
  have e : ((-1 : Int) + (xs.length : Int)).toNat = xs.length - 1 := by omega
  rw [e, List.take_of_length_le (by rw [List.length_drop]; exact Nat.le_refl _)]
theorem dg_nl : W dg Nl = 0 := by decide +kernel
theorem dg_join {ps : List PySem.Str} : W dg (Txt.join Nl ps) ≤ (ps.map (W dg)).sum := by
  have := (W_join (f := dg) Nl ps).1
  rw [dg_nl, Nat.mul_zero] at this
  exact this
theorem Tm.dg {n g g' : Nat} {x : PySem.Str} (h : Tm n g x) (d : W DK.dg x ≤ g') : Tm n g' x := ⟨h.len, d, h.ok⟩
theorem Tl.cut {n g k : Nat} {t : PySem.Str} (h : Tl n g k t) (lo hi : Option Int) : Tl n g k (cutS t lo hi) := ⟨h.t.cut lo hi, Nat.le_trans (W_cut _ _ _) h.l⟩
theorem Tl.line {n g k : Nat} {t : PySem.Str} (h : Tl n g k t) : ∀ l ∈ Txt.split t Nl, W dg l ≤ g := fun l hl => Nat.le_trans (W_mem hl) h.t.dig
section
variable {n g k m : Nat} {t : PySem.Str} (h : Tl n g k t) (hl : ∀ l ∈ Txt.split t Nl, W dg l ≤ m) (hm : 3 ≤ m)
include h hl hm
theorem nearM_out (j : Nat) : Tl (2 * n + 20) (g + m) (2 * k + 2) (Txt.join Nl ((Txt.split t Nl).take j ++ (Txt.split t Nl).drop (j + 1))) := by
  have l := h.lines
  have s := take_drop_sub (Txt.split t Nl) (show j ≤ j + 1 by omega)
  have s1 := sum_subS (f := nw) s
  have s3 := sum_subS (f := dg) s
  have s2 := s.length_le
  obtain ⟨_, b, _⟩ := lines_sum h.t
  exact ⟨(near_out h.t j).dg (Nat.le_trans dg_join (by omega)), Nat.le_trans nw_join (by omega)⟩
theorem nearM_odd (j : Nat) {x : PySem.Str} (o : Odd x) (ox : W nw x = 0) (hg : 3 ≤ g) : Tl (2 * n + 20) (g + m) (2 * k + 2) (Txt.join Nl ((Txt.split t Nl).take j ++ [x] ++ (Txt.split t Nl).drop (j + 1))) := by
  have l := h.lines
  have s := take_drop_sub (Txt.split t Nl) (show j ≤ j + 1 by omega)
  have s1 := sum_subS (f := nw) s
  have s3 := sum_subS (f := dg) s
  have s2 := s.length_le
  have od := o.d
  obtain ⟨_, b, _⟩ := lines_sum h.t
  rw [List.map_append, List.sum_append] at s1 s3
  rw [List.length_append] at s2
  refine ⟨(near_odd h.t j o hg).dg (Nat.le_trans dg_join ?_), Nat.le_trans nw_join ?_⟩
  · rw [List.map_append, List.map_append, List.sum_append, List.sum_append, List.map_cons, List.map_nil, List.sum_cons, List.sum_nil]
    omega
  · rw [List.map_append, List.map_append, List.sum_append, List.sum_append, List.map_cons, List.map_nil, List.sum_cons, List.sum_nil, List.length_append, List.length_append, List.length_singleton, ox]
    omega
theorem nearM_twice (j : Nat) : Tl (2 * n + 20) (g + m) (2 * k + 2) (Txt.join Nl ((Txt.split t Nl).take (j + 1) ++ (Txt.split t Nl).drop j)) := by
  have l := h.lines
  have d1 := sum_subS (f := nw) (List.take_sublist (j + 1) (Txt.split t Nl))
  have d2 := sum_subS (f := nw) (List.drop_sublist j (Txt.split t Nl))
  have pos : 1 ≤ (Txt.split t Nl).length := List.length_pos_iff.mpr (split_ne tl_nl (by decide +kernel))
  obtain ⟨_, b, _⟩ := lines_sum h.t
  refine ⟨(near_twice h.t j).dg (Nat.le_trans dg_join ?_), Nat.le_trans nw_join ?_⟩
  · have e : ((Txt.split t Nl).map (W dg)).sum = (((Txt.split t Nl).take j).map (W dg)).sum + (((Txt.split t Nl).drop j).map (W dg)).sum := by
      rw [← List.sum_append, ← List.map_append, List.take_append_drop]
    have e2 : (((Txt.split t Nl).take (j + 1)).map (W dg)).sum ≤ (((Txt.split t Nl).take j).map (W dg)).sum + m := by
      rw [List.take_add_one, List.map_append, List.sum_append]
      cases z : (Txt.split t Nl)[j]? with
      | none => show _ + 0 ≤ _; omega
      | some x =>
        have := hl x (List.mem_of_getElem? z)
        show _ + (W dg x + 0) ≤ _
        omega
    rw [List.map_append, List.sum_append]
    omega
  · rw [List.map_append, List.sum_append, List.length_append, List.length_take, List.length_drop]
    omega
theorem nearM_sign (a b : Nat) (hab : a ≤ b) {x : PySem.Str} (hx : x.length ≤ 1) (ox : OkS x) (wx : W nw x ≤ 1) (hg : 3 ≤ g) : Tl (2 * n + 20) (g + m) (2 * k + 2) (cutS t none (some (a : Nat)) ++ x ++ cutS t (some (b : Nat)) none) := by
  have key : ∀ f : Nat → Nat, W f (cutS t none (some (a : Nat)) ++ x ++ cutS t (some (b : Nat)) none) ≤ W f t + W f x := fun f => by
    rw [W_app, W_app]
    have s2 := sum_sub (f := f) (take_drop_sub (tl t) hab)
    rw [List.map_append, List.sum_append] at s2
    have d1 : W f (cutS t none (some (a : Nat))) = (((tl t).take a).map f).sum := by unfold W; rw [tl_take]
    have d2 : W f (cutS t (some (b : Nat)) none) = (((tl t).drop b).map f).sum := by unfold W; rw [tl_drop]
    have d3 : W f t = ((tl t).map f).sum := rfl
    rw [d1, d2, d3]
    omega
  have k1 := key dg
  have k2 := key nw
  have k3 := W_dg_le x
  have k4 := h.t.dig
  have k5 := h.l
  exact ⟨(near_sign h.t a b hab hx ox hg).dg (by omega), by omega⟩
theorem nearM_cut (a : Nat) : Tl (2 * n + 20) (g + m) (2 * k + 2) (cutS t none (some (a : Nat))) := (h.cut _ _).up (by omega) (by omega) (by omega)
theorem nearM_mixed {ys : List PySem.Str} (p : ys.Perm ((Txt.split t Nl).drop 1).dropLast) : Tl (2 * n + 20) (g + m) (2 * k + 2) (Txt.join Nl ((Txt.split t Nl).take 1 ++ ys ++ (Txt.split t Nl).drop ((Txt.split t Nl).length - 1))) := by
  have l := h.lines
  obtain ⟨a, b, c⟩ := lines_sum h.t
  have sub : ((Txt.split t Nl).take 1 ++ ((Txt.split t Nl).drop 1).dropLast).Sublist (Txt.split t Nl) := by
    have : ((Txt.split t Nl).take 1 ++ ((Txt.split t Nl).drop 1).dropLast).Sublist ((Txt.split t Nl).take 1 ++ (Txt.split t Nl).drop 1) := (List.Sublist.refl _).append (List.dropLast_sublist _)
    rwa [List.take_append_drop] at this
  have dsub := List.drop_sublist ((Txt.split t Nl).length - 1) (Txt.split t Nl)
  have ln := p.length_eq
  have u1 := sum_len_sub sub
  have u2 := sum_len_sub dsub
  have v1 := sum_subS (f := dg) sub
  have w1 := sum_subS (f := nw) sub
  have w2 := sum_subS (f := nw) dsub
  have z1 := sub.length_le
  have z2 : ((Txt.split t Nl).drop ((Txt.split t Nl).length - 1)).length ≤ 1 := by rw [List.length_drop]; omega
  have v2 : (((Txt.split t Nl).drop ((Txt.split t Nl).length - 1)).map (W dg)).sum ≤ m := by
    have y := sum_leN (f := W dg) (L := (Txt.split t Nl).drop ((Txt.split t Nl).length - 1)) fun x hx => hl x (List.mem_of_mem_drop hx)
    have : ((Txt.split t Nl).drop ((Txt.split t Nl).length - 1)).length * m ≤ 1 * m := Nat.mul_le_mul_right _ z2
    omega
  have pos : 1 ≤ (Txt.split t Nl).length := List.length_pos_iff.mpr (split_ne tl_nl (by decide +kernel))
  rw [List.map_append, List.sum_append] at u1 v1 w1
  rw [List.length_append] at z1
  refine ⟨(tm_join (A := 2 * ((Txt.split t Nl).map (·.length)).sum) (B := g + m) (C := (Txt.split t Nl).length + 1) ?_ ?_ ?_ fun q hq => ?_).up (by omega) (Nat.le_refl _), Nat.le_trans nw_join ?_⟩
  · rw [List.map_append, List.map_append, List.sum_append, List.sum_append, sum_perm p]; omega
  · rw [List.map_append, List.map_append, List.sum_append, List.sum_append, sum_perm p]; omega
  · rw [List.length_append, List.length_append, ln]; omega
  · rcases List.mem_append.mp hq with hq | hq
    · rcases List.mem_append.mp hq with hq | hq
      · exact c q (List.mem_of_mem_take hq)
      · exact c q (List.mem_of_mem_drop (List.dropLast_subset _ (p.mem_iff.mp hq)))
    · exact c q (List.mem_of_mem_drop hq)
  · rw [List.map_append, List.map_append, List.sum_append, List.sum_append, sum_perm p, List.length_append, List.length_append, ln]; omega
end
/-- a manifest that is read, or drawn, prints within bounds -/
theorem gd_rowsM {R : List (List PySem.Str)} {s : PySem.Str} (f : ∀ ws ∈ R, ∀ x ∈ ws, Sg x) (hs : Sg s) (hl : s.length ≤ 100000) (hc : Dt.costAll (R.map wordsD) ≤ 10000000) : Gd (mfD (R, s)) := by
  have d1 := dep_rows R
  have e : mfD (R, s) = .tup [.tup (R.map wordsD), lkD s] := rfl
  rw [e]
  unfold lkD
  by_cases c : V.str s = V.str "-"
  · rw [if_pos c]
    refine ⟨.tup (.cons (.tup (fine_rows f)) (.cons .non .nil)), ?_, ?_⟩
    · show max (Dt.depAll (R.map wordsD) + 1) (max 0 0) + 1 ≤ 59
      omega
    · show 10 + ((10 + Dt.costAll (R.map wordsD)) + (10 + 0)) ≤ 16000000
      omega
  · rw [if_neg c]
    refine ⟨.tup (.cons (.tup (fine_rows f)) (.cons (.str s hs) .nil)), ?_, ?_⟩
    · show max (Dt.depAll (R.map wordsD) + 1) (max 0 0) + 1 ≤ 59
      omega
    · show 10 + ((10 + Dt.costAll (R.map wordsD)) + ((10 * s.length + 10) + 0)) ≤ 16000000
      omega
theorem gd_readM {t : PySem.Str} {n g : Nat} (h : Tm n g t) (hn : n ≤ 10000) : Gd (readDM t) := by
  unfold readDM
  cases e : readGM t with
  | none => exact ⟨.non, Nat.zero_le _, by show 10 ≤ _; omega⟩
  | some a =>
    unfold readGM at e
    cases hr : rowsT t with
    | nil => rw [hr] at e; cases e
    | cons first rest =>
      rw [hr] at e
      have e' : (if rest ≠ [] ∧ first = [("entries" : PySem.Str), num ((rest.length - 1 : Nat) : Int)] then readRM rest else none) = some a := e
      by_cases c : rest ≠ [] ∧ first = [("entries" : PySem.Str), num ((rest.length - 1 : Nat) : Int)]
      · rw [if_pos c] at e'
        unfold readRM at e'
        by_cases c2 : rest.dropLast.all entB = true ∧ ascD (rest.dropLast.map hd) = true ∧ lockM (rest.getLastD []) = true
        · rw [if_pos c2] at e'
          cases e'
          have ok : ∀ ws ∈ rowsT t, ∀ x ∈ ws, Tm n g x := fun ws hw x hx => by
            unfold rowsT at hw
            obtain ⟨y, hy, rfl⟩ := List.mem_map.mp hw
            exact (h.piece tl_nl (by decide +kernel) hy).piece tl_bk (by decide +kernel) hx
          have sg : ∀ {x : PySem.Str}, Tm n g x → Sg x := fun t => OkS.sg t.ok (by have := t.len; omega)
          rw [hr] at ok
          refine gd_rowsM (fun ws hw x hx => sg (ok ws (List.mem_cons_of_mem _ (List.dropLast_subset _ hw)) x hx)) ?_ ?_ ?_
          · obtain ⟨x, y, ex⟩ := lockM_two c2.2.2
            rw [ex]
            have : [x, y] ∈ rest := by rw [← ex]; exact last_mem c.1
            exact sg (ok _ (List.mem_cons_of_mem _ this) y (by simp))
          · obtain ⟨x, y, ex⟩ := lockM_two c2.2.2
            rw [ex]
            have : [x, y] ∈ rest := by rw [← ex]; exact last_mem c.1
            have := (ok _ (List.mem_cons_of_mem _ this) y (by simp)).len
            show y.length ≤ _
            omega
          · have c1 := cost_rows (Txt.split t Nl)
            have h1 := W_split (f := fun _ => 1) t Nl
            rw [W_one, ← len_W] at h1
            have h2 := split_many (x := t) tl_nl (by decide +kernel)
            have h3 : (rest.dropLast.map wordsD).Sublist ((Txt.split t Nl).map fun l => wordsD (Txt.split l Bk)) := by
              have e3 : ((Txt.split t Nl).map fun l => wordsD (Txt.split l Bk)) = (rowsT t).map wordsD := by unfold rowsT; rw [List.map_map]; rfl
              rw [e3, hr]
              exact ((List.dropLast_sublist rest).trans (List.sublist_cons_self _ _)).map _
            have h4 := cost_sub h3
            have := h.len
            omega
        · rw [if_neg c2] at e'; cases e'
      · rw [if_neg c] at e'; cases e'
/-- what is told of a drawn manifest and its text prints -/
theorem gd_mf {g : Lg} (h : MfD g) : Gd (.lst [.str (mfT g), mfD g]) := by
  have t := h.tm.t
  have g1 := gd_readM t (by decide)
  rw [h.read] at g1
  have few := h.few
  have l1 := t.len
  have l2 := (shm_ok g.2 h.lk).2.2.2.1
  have c : Dt.costAll (g.1.map wordsD) ≤ g.1.length * 1000 := by
    have : ∀ L : List (List PySem.Str), (∀ ws ∈ L, EnD ws) → Dt.costAll (L.map wordsD) ≤ L.length * 1000 := by
      intro L
      induction L with
      | nil => intro _; exact Nat.zero_le _
      | cons a L ih =>
        intro hL
        have := ih fun ws hw => hL ws (List.mem_cons_of_mem _ hw)
        obtain ⟨_, _, h3, _, h5, _⟩ := (hL a List.mem_cons_self).ok
        rw [List.map_cons, List.length_cons, Nat.succ_mul]
        show (10 + Dt.costAll (a.map Dt.str)) + Dt.costAll (L.map wordsD) ≤ _
        rw [cost_strs]
        omega
    exact this g.1 h.st
  have lk : (lkD g.2).dep = 0 ∧ (lkD g.2).cost ≤ 10 * g.2.length + 10 := by
    unfold lkD
    by_cases c : V.str g.2 = V.str "-"
    · rw [if_pos c]; exact ⟨rfl, by show 10 ≤ _; omega⟩
    · rw [if_neg c]; exact ⟨rfl, Nat.le_refl _⟩
  refine ⟨.lst (.cons (.str _ (OkS.sg t.ok (by omega))) (.cons g1.fine .nil)), ?_, ?_⟩
  · show max 0 (max (max (Dt.depAll (g.1.map wordsD) + 1) (max (lkD g.2).dep 0) + 1) 0) + 1 ≤ 59
    have := dep_rows g.1
    rw [lk.1]
    omega
  · show 10 + ((10 * (mfT g).length + 10) + ((10 + ((10 + Dt.costAll (g.1.map wordsD)) + ((lkD g.2).cost + 0))) + 0)) ≤ 16000000
    omega
end DK
/-! sorted(set(texts)). -/
namespace DK
open PySem PySem.Spec PyProof.Rows L2 TL RX
theorem pe_sortSet {X : Cx} {e : Expr} {te : TE} {p1 p2 p3 p4 : Pos} (hc : X.calm = true) (hg1 : Gl X "sorted") (hg2 : Gl X "set") (m1 : X.mg "sorted" = none) (m2 : X.mg "set" = none) (he : PE X e te)
    (h1 : starEach (e :: []) X.env = (false, eval e X.env) :: starEach [] X.env) :
    PE X (.Call (.Name "sorted" p1) [.Call (.Name "set" p2) [e] [] p3] [] p4) (fun σ H Q => te σ H fun x H1 => ∃ (l : Addr) (xs : List PySem.Str), x = .ref l ∧ H1 l = some (.lst (xs.map V.str)) ∧ xs.length < 64 ∧
      ∀ (H' : Hp) (p : Addr) (ys : List PySem.Str), Same H1 H' → H1 p = none → H' p = some (.lst (ys.map V.str)) → TX.Asc ys → (∀ x, x ∈ ys ↔ x ∈ xs) → ys.length ≤ xs.length → Q (.ref p) H') := by
  constructor
  intro pins s σ H Q I h
  have R := pe_callB (X := X) (pos := p4) (p := p1) (TX.cr_sortedX hc) hg1 m1 (by decide +kernel) (pa_cons (pe_callTy (pos := p3) (p := p2) (TX.cr_setX hc) hg2 m2 (by decide +kernel) (pa_cons (pe_mid he) pa_nil h1) (by decide) (by decide) h1 (by rfl)) pa_nil) (by decide) (by decide) (by rfl) (by rfl)
  refine R.run pins s σ H Q I ⟨_, h, ?_⟩
  rintro x H1 ⟨l, xs, rfl, hl, few, q⟩
  refine ⟨l, xs, rfl, .inl (.inl hl), few, fun a na => ⟨a, xs, rfl, upd_same, few, fun ys p as mm le np => ?_⟩⟩
  have s1 : Same H1 (upd H1 a (TX.SXO X.prog X.w a xs)) := new_same na
  exact q _ p ys (s1.trans (new_same np)) (same_no s1 np) upd_same as mm le
/-- heads of rows that a comprehension has made -/
theorem heads_all {H : Hp} : ∀ {vs : List V} {R : List (List PySem.Str)} {ys : List V}, Paired (fun u ws => ∃ q, u = V.ref q ∧ H q = some (.lst (ws.map V.str))) vs R →
    Paired (fun x y => ∃ (ws : List PySem.Str) (q : Addr), (x = V.ref q ∧ H q = some (.lst (ws.map V.str))) ∧ y = .str (hd ws)) vs ys → ys = (R.map hd).map V.str
  | _, _, _, .nil, h => by cases h; rfl
  | _, _, _, .cons a b, h => by
    cases h with
    | cons c d =>
      obtain ⟨q, rfl, h1⟩ := a
      obtain ⟨ws, q2, ⟨e, h2⟩, rfl⟩ := c
      cases e
      rw [h1] at h2
      have e := strs_inj (HO.lst.inj (Option.some.inj h2))
      rw [heads_all b d, e]; rfl
end DK
/-! Files, purely: a dict from texts to texts. -/
namespace DK
open PySem PySem.Spec PyProof.Rows L2 TL RX
abbrev Fl := List (PySem.Str × PySem.Str)
def vf (F : Fl) : List (PySem.Str × V) := F.map fun p => (p.1, V.str p.2)
def kf (F : Fl) : List (L2.Key × V) := kk (vf F)
def getF (F : Fl) (x : PySem.Str) : Option PySem.Str := (F.find? fun p => decide (p.1 = x)).map (·.2)
def putF (F : Fl) (x c : PySem.Str) : Fl := if (F.any fun p => decide (p.1 = x)) = true then F.map (fun p => if p.1 = x then (p.1, c) else p) else F ++ [(x, c)]
def dropF (F : Fl) (x : PySem.Str) : Fl := F.filter fun p => decide (p.1 ≠ x)
theorem kf_eq (F : Fl) : kf F = F.map fun p => ((Sum.inr p.1 : L2.Key), V.str p.2) := by
  unfold kf kk vf
  rw [List.map_map]
  rfl
theorem kf_len (F : Fl) : (kf F).length = F.length := by rw [kf_eq, List.length_map]
theorem vf_keys (F : Fl) : (vf F).map (·.1) = F.map (·.1) := by unfold vf; rw [List.map_map]; rfl
theorem kf_keys (F : Fl) : (kf F).map (·.1) = (F.map (·.1)).map Sum.inr := by rw [kf_eq, List.map_map, List.map_map]; rfl
theorem get_nil (x : PySem.Str) : getF [] x = none := rfl
theorem get_pos {p : PySem.Str × PySem.Str} {F : Fl} {x : PySem.Str} (e : p.1 = x) : getF (p :: F) x = some p.2 := by simp [getF, List.find?_cons, e]
theorem get_neg {p : PySem.Str × PySem.Str} {F : Fl} {x : PySem.Str} (e : ¬ p.1 = x) : getF (p :: F) x = getF F x := by simp [getF, List.find?_cons, e]
theorem kf_val (F : Fl) (x : PySem.Str) : valV (kf F) (Sum.inr x) = (getF F x).map V.str := by
  rw [kf_eq]
  induction F with
  | nil => rfl
  | cons p F ih =>
    rw [List.map_cons]
    by_cases e : p.1 = x
    · rw [get_pos e, valV_pos (p := ((Sum.inr p.1 : L2.Key), V.str p.2)) (by rw [e])]; rfl
    · rw [get_neg e, valV_neg (p := ((Sum.inr p.1 : L2.Key), V.str p.2)) (fun z => e (Sum.inr.inj z)), ih]
theorem kf_put (F : Fl) (x c : PySem.Str) : putK (kf F) (Sum.inr x) (.str c) = kf (putF F x c) := by
  have e : ((kf F).any fun kv => decide (kv.1 = (Sum.inr x : L2.Key))) = F.any fun p => decide (p.1 = x) := by
    rw [kf_eq, List.any_map]
    congr 1
    funext p
    show decide ((Sum.inr p.1 : L2.Key) = Sum.inr x) = decide (p.1 = x)
    by_cases h : p.1 = x
    · rw [decide_eq_true h, decide_eq_true (by rw [h])]
    · rw [decide_eq_false h, decide_eq_false (fun z => h (Sum.inr.inj z))]
  unfold putK putF
  rw [e]
  by_cases h : (F.any fun p => decide (p.1 = x)) = true
  · rw [if_pos h, if_pos h, kf_eq, kf_eq, List.map_map, List.map_map]
    refine List.map_congr_left fun p _ => ?_
    show (if (Sum.inr p.1 : L2.Key) = Sum.inr x then ((Sum.inr p.1 : L2.Key), V.str c) else (Sum.inr p.1, V.str p.2)) = ((Sum.inr (if p.1 = x then (p.1, c) else p).1 : L2.Key), V.str (if p.1 = x then (p.1, c) else p).2)
    by_cases q : p.1 = x
    · rw [if_pos q, if_pos (by rw [q])]
    · rw [if_neg q, if_neg (fun z => q (Sum.inr.inj z))]
  · rw [if_neg h, if_neg h, kf_eq, kf_eq, List.map_append]
    rfl
theorem kf_drop (F : Fl) (x : PySem.Str) : dropK (kf F) (Sum.inr x) = kf (dropF F x) := by
  unfold dropK dropF
  rw [kf_eq, kf_eq, List.filter_map]
  congr 1
  refine List.filter_congr fun p _ => ?_
  exact decide_eq_decide.mpr ⟨fun h z => h (by show (Sum.inr p.1 : L2.Key) = Sum.inr x; rw [z]), fun h z => h (Sum.inr.inj z)⟩
theorem get_mem {F : Fl} {x c : PySem.Str} (h : getF F x = some c) : (x, c) ∈ F := by
  induction F with
  | nil => cases h
  | cons p F ih =>
    by_cases e : p.1 = x
    · rw [get_pos e] at h; cases h; rw [← e]; exact List.mem_cons_self
    · rw [get_neg e] at h; exact List.mem_cons_of_mem _ (ih h)
theorem mem_get {F : Fl} (nd : (F.map (·.1)).Nodup) {p : PySem.Str × PySem.Str} (h : p ∈ F) : getF F p.1 = some p.2 := by
  induction F with
  | nil => cases h
  | cons q F ih =>
    rw [List.map_cons] at nd
    obtain ⟨n1, n2⟩ := List.nodup_cons.mp nd
    rcases List.mem_cons.mp h with e | e
    · rw [e]; exact get_pos rfl
    · have : ¬ q.1 = p.1 := fun z => n1 (by rw [z]; exact List.mem_map_of_mem e)
      rw [get_neg this]; exact ih n2 e
theorem get_none {F : Fl} {x : PySem.Str} : getF F x = none ↔ x ∉ F.map (·.1) := by
  induction F with
  | nil => simp [getF]
  | cons p F ih =>
    by_cases e : p.1 = x
    · rw [get_pos e, List.map_cons]
      simp [e]
    · rw [get_neg e, ih, List.map_cons, List.mem_cons]
      exact ⟨fun h => fun z => z.elim (fun q => e q.symm) h, fun h z => h (Or.inr z)⟩
theorem any_get (F : Fl) (x : PySem.Str) : (F.any fun p => decide (p.1 = x)) = (getF F x).isSome := by
  induction F with
  | nil => rfl
  | cons p F ih =>
    rw [List.any_cons]
    by_cases e : p.1 = x
    · rw [get_pos e, decide_eq_true e]; rfl
    · rw [get_neg e, decide_eq_false e, ih]; rfl
theorem get_app (F : Fl) (p : PySem.Str × PySem.Str) (x : PySem.Str) : getF (F ++ [p]) x = match getF F x with | some c => some c | none => if p.1 = x then some p.2 else none := by
  induction F with
  | nil =>
    show getF [p] x = if p.1 = x then some p.2 else none
    by_cases e : p.1 = x
    · rw [get_pos e, if_pos e]
    · rw [get_neg e, if_neg e]; rfl
  | cons q F ih =>
    show getF (q :: (F ++ [p])) x = _
    by_cases e : q.1 = x
    · rw [get_pos e, get_pos e]
    · rw [get_neg e, get_neg e, ih]
theorem get_put (F : Fl) (x c y : PySem.Str) : getF (putF F x c) y = if y = x then some c else getF F y := by
  unfold putF
  rw [any_get]
  by_cases h : (getF F x).isSome = true
  · rw [if_pos h]
    have key : ∀ F : Fl, getF (F.map fun p => if p.1 = x then (p.1, c) else p) y = if y = x then (getF F y).map fun _ => c else getF F y := by
      intro F
      induction F with
      | nil => rw [List.map_nil]; split <;> rfl
      | cons p F ih =>
        rw [List.map_cons]
        by_cases e : p.1 = y
        · rw [get_pos (p := if p.1 = x then (p.1, c) else p) (by split <;> exact e), get_pos e]
          by_cases q : p.1 = x
          · rw [if_pos q, if_pos (e.symm.trans q)]; rfl
          · rw [if_neg q, if_neg (fun z => q (e.trans z))]
        · rw [get_neg (p := if p.1 = x then (p.1, c) else p) (by split <;> exact e), get_neg e, ih]
    rw [key]
    by_cases e : y = x
    · rw [if_pos e, if_pos e, e]
      cases z : getF F x with
      | none => rw [z] at h; cases h
      | some _ => rfl
    · rw [if_neg e, if_neg e]
  · rw [if_neg h]
    have hn : getF F x = none := by
      cases z : getF F x with
      | none => rfl
      | some _ => rw [z] at h; exact absurd rfl h
    rw [get_app]
    by_cases e : y = x
    · rw [if_pos e, e, hn]
      show (if x = x then some c else none) = some c
      rw [if_pos rfl]
    · rw [if_neg e]
      cases z : getF F y with
      | some _ => rfl
      | none =>
        show (if x = y then some c else none) = none
        rw [if_neg (fun q => e q.symm)]
theorem get_drop (F : Fl) (x y : PySem.Str) : getF (dropF F x) y = if y = x then none else getF F y := by
  unfold dropF
  induction F with
  | nil => split <;> rfl
  | cons p F ih =>
    by_cases e : p.1 = x
    · rw [List.filter_cons_of_neg (by simp [e]), ih]
      by_cases q : y = x
      · rw [if_pos q, if_pos q]
      · rw [if_neg q, if_neg q, get_neg (fun z => q (z.symm.trans e))]
    · rw [List.filter_cons_of_pos (by simp [e])]
      by_cases z : p.1 = y
      · rw [get_pos z, get_pos z, if_neg (fun q => e (z.trans q))]
      · rw [get_neg z, get_neg z, ih]
theorem put_keys (F : Fl) (x c : PySem.Str) : (putF F x c).map (·.1) = if (getF F x).isSome = true then F.map (·.1) else F.map (·.1) ++ [x] := by
  unfold putF
  rw [any_get]
  by_cases h : (getF F x).isSome = true
  · rw [if_pos h, if_pos h, List.map_map]
    refine List.map_congr_left fun p _ => ?_
    show (if p.1 = x then (p.1, c) else p).1 = p.1
    split <;> rfl
  · rw [if_neg h, if_neg h, List.map_append]; rfl
theorem put_nd {F : Fl} (nd : (F.map (·.1)).Nodup) (x c : PySem.Str) : ((putF F x c).map (·.1)).Nodup := by
  rw [put_keys]
  by_cases h : (getF F x).isSome = true
  · rw [if_pos h]; exact nd
  · rw [if_neg h]
    have hn : x ∉ F.map (·.1) := get_none.mp (by
      cases z : getF F x with
      | none => rfl
      | some _ => rw [z] at h; exact absurd rfl h)
    exact List.nodup_append.mpr ⟨nd, by simp, fun a ha b hb e => hn (by rw [List.mem_singleton.mp hb] at e; rw [← e]; exact ha)⟩
theorem drop_nd {F : Fl} (nd : (F.map (·.1)).Nodup) (x : PySem.Str) : ((dropF F x).map (·.1)).Nodup := (List.filter_sublist.map _).nodup nd
theorem put_mem {F : Fl} {x c : PySem.Str} {p : PySem.Str × PySem.Str} (h : p ∈ putF F x c) : p ∈ F ∨ p = (x, c) := by
  unfold putF at h
  split at h
  · obtain ⟨q, hq, rfl⟩ := List.mem_map.mp h
    by_cases e : q.1 = x
    · rw [if_pos e]; exact .inr (by rw [e])
    · rw [if_neg e]; exact .inl hq
  · rcases List.mem_append.mp h with h | h
    · exact .inl h
    · exact .inr (List.mem_singleton.mp h)
theorem drop_mem {F : Fl} {x : PySem.Str} {p : PySem.Str × PySem.Str} (h : p ∈ dropF F x) : p ∈ F := (List.mem_filter.mp h).1
theorem put_len (F : Fl) (x c : PySem.Str) : (putF F x c).length ≤ F.length + 1 := by
  have := congrArg List.length (put_keys F x c)
  rw [List.length_map] at this
  rw [this]
  split
  · rw [List.length_map]; omega
  · rw [List.length_append, List.length_map]; exact Nat.le_refl _
/-- files with the same contents at all paths -/
theorem perm_get {F G : Fl} (nf : (F.map (·.1)).Nodup) (ng : (G.map (·.1)).Nodup) (h : ∀ x, getF F x = getF G x) : F.Perm G := by
  have nd : ∀ {F : Fl}, (F.map (·.1)).Nodup → F.Nodup := fun h => List.Pairwise.of_map (S := (· ≠ ·)) (·.1) (fun a b z e => z (by rw [e])) h
  refine (List.perm_ext_iff_of_nodup (nd nf) (nd ng)).mpr fun p => ⟨fun m => ?_, fun m => ?_⟩
  · have := mem_get nf m
    rw [h] at this
    exact get_mem this
  · have := mem_get ng m
    rw [← h] at this
    exact get_mem this
theorem get_perm {F G : Fl} (nf : (F.map (·.1)).Nodup) (p : F.Perm G) (x : PySem.Str) : getF F x = getF G x := by
  have ng : (G.map (·.1)).Nodup := (p.map _).nodup_iff.mp nf
  cases z : getF F x with
  | some c => exact (mem_get ng (p.mem_iff.mp (get_mem z))).symm
  | none =>
    refine (get_none.mpr fun m => get_none.mp z ?_).symm
    exact (p.map _).mem_iff.mpr m
/-- the same files, paths ascending -/
structure Ord (F G : Fl) : Prop where
  s : sortedS (G.map (·.1)) = true
  p : G.Perm F
theorem Ord.one {F G1 G2 : Fl} (nd : (F.map (·.1)).Nodup) (a : Ord F G1) (b : Ord F G2) : G1 = G2 := by
  have e : G1.map (·.1) = G2.map (·.1) := TX.sorted_perm a.s b.s ((a.p.trans b.p.symm).map _)
  have n1 : (G1.map (·.1)).Nodup := (a.p.map _).nodup_iff.mpr nd
  have n2 : (G2.map (·.1)).Nodup := (b.p.map _).nodup_iff.mpr nd
  have key : ∀ (A B : Fl), A.map (·.1) = B.map (·.1) → (∀ p ∈ A, ∀ q ∈ B, p.1 = q.1 → p = q) → A = B := by
    intro A
    induction A with
    | nil => intro B h _; cases B with
      | nil => rfl
      | cons _ _ => cases h
    | cons p A ih =>
      intro B h hq
      cases B with
      | nil => cases h
      | cons q B =>
        rw [List.map_cons, List.map_cons] at h
        injection h with h1 h2
        rw [hq p List.mem_cons_self q List.mem_cons_self h1, ih B h2 fun a ha b hb => hq a (List.mem_cons_of_mem _ ha) b (List.mem_cons_of_mem _ hb)]
  refine key G1 G2 e fun p hp q hq z => ?_
  have h1 := mem_get nd (a.p.mem_iff.mp hp)
  have h2 := mem_get nd (b.p.mem_iff.mp hq)
  rw [z, h2] at h1
  exact Prod.ext z (Option.some.inj h1.symm)
/-- files at a place -/
structure Fs (H : Hp) (a : Addr) (F : Fl) : Prop where
  at_ : H a = some (.dK (kf F))
  nd : (F.map (·.1)).Nodup
def fsD (F : Fl) : Dt := .dic (F.map (·.1)) (F.map fun p => .str p.2)
theorem Fs.rp {H : Hp} {a b : Addr} {F : Fl} (h : Fs H a F) (n : a ≠ b) : Rp b H (.ref a) (fsD F) := by
  have k : RpAll b H ((vf F).map (·.2)) (F.map fun p => .str p.2) := by
    unfold vf
    rw [List.map_map]
    have : ∀ F : Fl, RpAll b H (F.map ((fun x => x.2) ∘ fun p => (p.1, V.str p.2))) (F.map fun p => Dt.str p.2) := by
      intro F
      induction F with
      | nil => exact .nil
      | cons p F ih => exact .cons (.str _) ih
    exact this F
  have := Rp.dic (b := b) n (.inl h.at_) (by rw [vf_keys]; exact h.nd) k
  rw [vf_keys] at this
  exact this
theorem Fs.same {H H' : Hp} {a : Addr} {F : Fl} (h : Fs H a F) (s : Same H H') : Fs H' a F := ⟨s _ _ h.at_, h.nd⟩
theorem Fs.chb {b : Addr} {H H' : Hp} {a : Addr} {F : Fl} (h : Fs H a F) (n : a ≠ b) (c : Chb b H H') : Fs H' a F := ⟨c _ _ n h.at_, h.nd⟩
end DK
/-! Versions drawn; registries of packs with files alone. -/
namespace DK
open PySem PySem.Spec PyProof.Rows L2 TL RX
def Vs (ns : List Int) : Prop := ns.length = 3 ∧ ∀ n ∈ ns, 0 ≤ n ∧ n < 1000000
theorem nodup_len {α : Type} [DecidableEq α] : ∀ {xs ys : List α}, xs.Nodup → (∀ x ∈ xs, x ∈ ys) → xs.length ≤ ys.length
  | [], _, _, _ => Nat.zero_le _
  | x :: xs, ys, hn, hs => by
    have hx := hs x List.mem_cons_self
    have h2 := List.nodup_cons.mp hn
    have ih := nodup_len (xs := xs) (ys := ys.erase x) h2.2 fun y hy => by
      have hne : y ≠ x := fun e => h2.1 (e ▸ hy)
      exact (List.mem_erase_of_ne hne).mpr (hs y (List.mem_cons_of_mem _ hy))
    rw [List.length_erase_of_mem hx] at ih
    have : 0 < ys.length := List.length_pos_of_mem hx
    rw [List.length_cons]
    omega
/-- versions at these places -/
def VA (b : Addr) (H : Hp) (L : List (Addr × List Int)) : Prop := ∀ q ∈ L, H q.1 = some (.tup (q.2.map V.int)) ∧ Vs q.2 ∧ q.1 ≠ b
abbrev rf (L : List (Addr × List Int)) : List V := L.map fun q => V.ref q.1
theorem VA.chg {b : Addr} {H H' : Hp} {L : List (Addr × List Int)} (h : VA b H L) (c : Chb b H H') : VA b H' L := fun q hq => ⟨c _ _ (h q hq).2.2 (h q hq).1, (h q hq).2⟩
theorem VA.nil {b : Addr} {H : Hp} : VA b H [] := fun q hq => by cases hq
theorem VA.cons {b : Addr} {H : Hp} {L : List (Addr × List Int)} {q : Addr × List Int} (h1 : H q.1 = some (.tup (q.2.map V.int)) ∧ Vs q.2 ∧ q.1 ≠ b) (h : VA b H L) : VA b H (q :: L) := fun r hr => by
  rcases List.mem_cons.mp hr with e | e
  · exact e ▸ h1
  · exact h r e
theorem VA.app {b : Addr} {H : Hp} {L M : List (Addr × List Int)} (h1 : VA b H L) (h : VA b H M) : VA b H (L ++ M) := fun r hr => by
  rcases List.mem_append.mp hr with e | e
  · exact h1 r e
  · exact h r e
theorem vs3 {a b c : Int} (ha : 0 ≤ a ∧ a < 1000000) (hb : 0 ≤ b ∧ b < 1000000) (hc : 0 ≤ c ∧ c < 1000000) : Vs [a, b, c] := ⟨rfl, fun n hn => by
  simp only [List.mem_cons, List.not_mem_nil, or_false] at hn
  rcases hn with e | e | e
  · exact e ▸ ha
  · exact e ▸ hb
  · exact e ▸ hc⟩
/-- sorted(set(e)) -/
theorem pe_sorts {X : Cx} {e : Expr} {te : TE} {p1 p2 p3 p4 : Pos} (b : Addr) (hc : X.calm = true) (hu : X.A.units + 64 < cLine) (hg1 : Gl X "sorted") (hg2 : Gl X "set") (m1 : X.mg "sorted" = none) (m2 : X.mg "set" = none) (he : PE X e te)
    (h1 : starEach (e :: []) X.env = (false, eval e X.env) :: starEach [] X.env) :
    PE X (.Call (.Name "sorted" p1) [.Call (.Name "set" p2) [e] [] p3] [] p4) (fun σ H Q => te σ H fun x H1 => ∃ l L o, x = .ref l ∧ H1 l = some (.lst (rf L)) ∧ VA b H1 L ∧ L ≠ [] ∧ L.length < 64 ∧ H1 b = some o ∧
      ∀ H' p M, Same H1 H' → H1 p = none → H' p = some (.lst (rf M)) → VA b H' M → M ≠ [] → M.length ≤ L.length → (M.map (·.2)).Nodup → Q (.ref p) H') := by
  constructor
  intro pins s σ H Q I h
  have R := pe_callB (X := X) (pos := p4) (p := p1) (cr_sortedT hc) hg1 m1 (by decide +kernel) (pa_cons (pe_callTy (pos := p3) (p := p2) (cr_setOfT hc hu) hg2 m2 (by decide +kernel) (pa_cons (pe_mid he) pa_nil h1) (by decide) (by decide) h1 (by rfl)) pa_nil) (by decide) (by decide) (by rfl) (by rfl)
  refine R.run pins s σ H Q I ⟨_, h, ?_⟩
  rintro x H1 ⟨l, L, o, rfl, hl, hV, hne, hlen, hb, q⟩
  refine ⟨l, L, rfl, .inl (.inl hl), fun r hr => .inl (.inl (hV r hr).1), hlen, fun a S na hS hL => ?_⟩
  have s1 : Same H1 (upd H1 a (SetTO X.prog X.w a S)) := new_same na
  have hVS : VA b H1 S := fun r hr => hV r (hS r hr)
  have hV2 : VA b (upd H1 a (SetTO X.prog X.w a S)) S := hVS.chg (Chb.same s1)
  refine ⟨a, S, 3, 1000000, rfl, upd_same, fun r hr => .inl (.inl (hV2 r hr).1), by decide, fun r hr => ⟨(hVS r hr).2.1.1, fun m hm => (hVS r hr).2.1.2 m hm⟩, fun M p perm nd lt _ np => ?_⟩
  have hM : ∀ r ∈ M, r ∈ S := fun r hr => perm.mem_iff.mp hr
  refine q _ p M (s1.trans (new_same np)) (same_no s1 np) upd_same (fun r hr => ?_) ?_ ?_ nd
  · have z := (hV2.chg (Chb.same (new_same (o := .lst (rf M)) np))) r (hM r hr)
    exact z
  · intro e
    subst e
    have : S = [] := List.perm_nil.mp perm.symm |> fun z => by simpa using z
    subst this
    cases L with
    | nil => exact hne rfl
    | cons r L =>
      have := hL r List.mem_cons_self
      simp at this
  · have := nodup_len nd (ys := L.map (·.2)) fun x hx => by
      obtain ⟨r, hr, rfl⟩ := List.mem_map.mp hx
      exact List.mem_map.mpr ⟨r, hS r (hM r hr), rfl⟩
    simpa using this
/-- a pack: its name, its version, whether it has a feature, its files -/
structure Pk where
  nm : PySem.Str
  vs : List Int
  ft : Bool
  fs : Fl
def cpD (p : PySem.Str × PySem.Str) : Dt := .tup [.str p.1, .str p.2]
def verD (v : List Int) : Dt := .tup (v.map Dt.int)
def ftD : Bool → Dt
  | true => .tup [.tup [.str "f", .tup [], .tup []]]
  | false => .tup []
def pkD (p : Pk) : Dt := .tup [.str p.nm, verD p.vs, .tup [], .tup [], .tup [], ftD p.ft, .tup [], .fup (p.fs.map cpD)]
def regD (R : List Pk) : Dt := .tup [.tup (R.map pkD), .tup []]
def PNM : List PySem.Str := ["app", "b", "lib-x"]
/-- the paths of a pack -/
def somP (n : PySem.Str) : List PySem.Str := [n, n ++ "/doc", n ++ "-x/y", "bin/" ++ n]
def ODC : List PySem.Str := ["", "x", "go", "a\nb", "x", "log 0\nlock store/c0", "entries 0\nlock -", "lock app 1.0.0", "yy"]
structure PkOk (p : Pk) : Prop where
  nm : p.nm ∈ PNM
  vs : Vs p.vs
  pt : (p.fs.map (·.1)).Nodup ∧ ∀ c ∈ p.fs, c.1 ∈ somP p.nm ∧ c.2 ∈ ODC
  few : p.fs.length ≤ 4
structure RgOk (R : List Pk) : Prop where
  all : ∀ p ∈ R, PkOk p
  few : R.length ≤ 6
  nd : (R.map fun p => (p.nm, p.vs)).Nodup
theorem rp_tup {b : Addr} {H : Hp} {v : V} {ds : List Dt} (h : Rp b H v (.tup ds)) : ∃ a xs, v = .ref a ∧ H a = some (.tup xs) ∧ RpAll b H xs ds := by
  cases h with
  | tup h k => exact ⟨_, _, rfl, h, k⟩
theorem rp_str {b : Addr} {H : Hp} {v : V} {x : PySem.Str} (h : Rp b H v (.str x)) : v = .str x := by
  cases h; rfl
theorem rp_at {b : Addr} {H : Hp} : ∀ {xs : List V} {ds : List Dt} {i : Nat} {d : Dt}, RpAll b H xs ds → ds[i]? = some d → ∃ x, xs[i]? = some x ∧ Rp b H x d
  | _, _, _, _, .nil, h => by simp at h
  | _, _, 0, _, .cons a _, h => by
    simp at h
    exact ⟨_, rfl, h ▸ a⟩
  | _, _, i + 1, d, .cons _ t, h => by
    obtain ⟨x, e, k⟩ := rp_at (i := i) t (by simpa using h)
    exact ⟨x, by simpa using e, k⟩
theorem rp_atL {b : Addr} {H : Hp} : ∀ {xs : List V} {ds : List Dt} {i : Nat} {x : V}, RpAll b H xs ds → xs[i]? = some x → ∃ d, ds[i]? = some d ∧ Rp b H x d
  | _, _, _, _, .nil, h => by simp at h
  | _, _, 0, _, .cons a _, h => by
    simp at h
    exact ⟨_, rfl, h ▸ a⟩
  | _, _, i + 1, x, .cons _ t, h => by
    obtain ⟨d, e, k⟩ := rp_atL (i := i) t (by simpa using h)
    exact ⟨d, by simpa using e, k⟩
theorem rp_ints {b : Addr} {H : Hp} : ∀ ns : List Int, RpAll b H (ns.map V.int) (ns.map Dt.int)
  | [] => .nil
  | n :: ns => .cons (.int n) (rp_ints ns)
end DK
/-! Data of tuples alone: they stay while tuples stay. -/
namespace DK
open PySem PySem.Spec PyProof.Rows L2 TL RX
mutual
def tuD : Dt → Bool
  | .lst _ => false
  | .dic _ _ => false
  | .fup _ => false
  | .tup ds => tuAll ds
  | _ => true
def tuAll : List Dt → Bool
  | [] => true
  | d :: ds => tuD d && tuAll ds
end
mutual
theorem rp_kt {b c : Addr} {H H' : Hp} (k : KT H H') : ∀ (d : Dt) (v : V), tuD d = true → Rp b H v d → Rp c H' v d
  | .non, v, _, h => by cases h; exact .non
  | .bl x, v, _, h => by cases h; exact .bl x
  | .int i, v, _, h => by cases h; exact .int i
  | .str x, v, _, h => by cases h; exact .str x
  | .lst ds, v, t, h => by cases t
  | .dic ks ds, v, t, h => by cases t
  | .fup ds, v, t, h => by cases t
  | .tup ds, v, t, h => by
    cases h with
    | tup h q => exact .tup (k _ _ h) (rpa_kt k ds _ t q)
theorem rpa_kt {b c : Addr} {H H' : Hp} (k : KT H H') : ∀ (ds : List Dt) (vs : List V), tuAll ds = true → RpAll b H vs ds → RpAll c H' vs ds
  | [], vs, _, h => by cases h; exact .nil
  | d :: ds, vs, t, h => by
    have t' : (tuD d && tuAll ds) = true := t
    rw [Bool.and_eq_true] at t'
    cases h with
    | cons h q => exact .cons (rp_kt k d _ t'.1 h) (rpa_kt k ds _ t'.2 q)
end
theorem tu_map {α : Type} {f : α → Dt} (h : ∀ a, tuD (f a) = true) : ∀ l : List α, tuAll (l.map f) = true
  | [] => rfl
  | a :: l => by
    show (tuD (f a) && tuAll (l.map f)) = true
    rw [h a, tu_map h l]; rfl
theorem tu_cp (p : PySem.Str × PySem.Str) : tuD (cpD p) = true := rfl
theorem tu_ver (v : List Int) : tuD (verD v) = true := by
  show tuAll (v.map Dt.int) = true
  exact tu_map (fun _ => rfl) v
theorem tu_ft : ∀ b : Bool, tuD (ftD b) = true
  | true => rfl
  | false => rfl
theorem rpa_snoc {b : Addr} {H : Hp} {vs : List V} {ds : List Dt} {v : V} {d : Dt} (h : RpAll b H vs ds) (k : Rp b H v d) : RpAll b H (vs ++ [v]) (ds ++ [d]) := rp_app h (.cons k .nil)
theorem somP_nd : ∀ n ∈ PNM, (somP n).Nodup := by decide +kernel
theorem pnm_nd : PNM.Nodup := by decide +kernel
end DK
/-! Plans, purely: names, versions, whether a feature; texts of their locks. -/
namespace DK
open PySem PySem.Spec PyProof.Rows L2 TL RX
section
variable {α : Type}
def putA (L : List (PySem.Str × α)) (n : PySem.Str) (a : α) : List (PySem.Str × α) := if (L.any fun p => decide (p.1 = n)) = true then L.map (fun p => if p.1 = n then (p.1, a) else p) else L ++ [(n, a)]
theorem any_keys {β : Type} : ∀ {L : List (PySem.Str × α)} {M : List (PySem.Str × β)} {n : PySem.Str}, L.map (·.1) = M.map (·.1) → (L.any fun p => decide (p.1 = n)) = M.any fun p => decide (p.1 = n)
  | [], [], _, _ => rfl
  | [], _ :: _, _, h => by cases h
  | _ :: _, [], _, h => by cases h
  | p :: L, q :: M, n, h => by
    rw [List.map_cons, List.map_cons] at h
    injection h with h1 h2
    rw [List.any_cons, List.any_cons, h1, any_keys h2]
theorem putA_keys (L : List (PySem.Str × α)) (n : PySem.Str) (a : α) : (putA L n a).map (·.1) = if (L.any fun p => decide (p.1 = n)) = true then L.map (·.1) else L.map (·.1) ++ [n] := by
  unfold putA
  split
  · rw [List.map_map]
    refine List.map_congr_left fun p _ => ?_
    show (if p.1 = n then (p.1, a) else p).1 = p.1
    split <;> rfl
  · rw [List.map_append]; rfl
theorem putA_nd {L : List (PySem.Str × α)} (nd : (L.map (·.1)).Nodup) (n : PySem.Str) (a : α) : ((putA L n a).map (·.1)).Nodup := by
  rw [putA_keys]
  split
  · exact nd
  · rename_i h
    refine List.nodup_append.mpr ⟨nd, by simp, fun x hx y hy e => h ?_⟩
    obtain ⟨p, hp, rfl⟩ := List.mem_map.mp hx
    rw [List.mem_singleton.mp hy] at e
    exact List.any_eq_true.mpr ⟨p, hp, decide_eq_true e⟩
theorem putA_mem {L : List (PySem.Str × α)} {n : PySem.Str} {a : α} {p : PySem.Str × α} (h : p ∈ putA L n a) : p ∈ L ∨ p = (n, a) := by
  unfold putA at h
  split at h
  · obtain ⟨q, hq, rfl⟩ := List.mem_map.mp h
    by_cases e : q.1 = n
    · rw [if_pos e]; exact .inr (by rw [e])
    · rw [if_neg e]; exact .inl hq
  · rcases List.mem_append.mp h with h | h
    · exact .inl h
    · exact .inr (List.mem_singleton.mp h)
end
theorem kk_eq (ks : List (PySem.Str × V)) : kk ks = ks.map fun p => ((Sum.inr p.1 : L2.Key), p.2) := rfl
theorem kk_put (ks : List (PySem.Str × V)) (n : PySem.Str) (u : V) : putK (kk ks) (Sum.inr n) u = kk (putA ks n u) := by
  have e : ((kk ks).any fun kv => decide (kv.1 = (Sum.inr n : L2.Key))) = ks.any fun p => decide (p.1 = n) := by
    rw [kk_eq, List.any_map]
    congr 1
    funext p
    show decide ((Sum.inr p.1 : L2.Key) = Sum.inr n) = decide (p.1 = n)
    by_cases h : p.1 = n
    · rw [decide_eq_true h, decide_eq_true (by rw [h])]
    · rw [decide_eq_false h, decide_eq_false (fun z => h (Sum.inr.inj z))]
  unfold putK putA
  rw [e]
  by_cases h : (ks.any fun p => decide (p.1 = n)) = true
  · rw [if_pos h, if_pos h, kk_eq, kk_eq, List.map_map, List.map_map]
    refine List.map_congr_left fun p _ => ?_
    show (if (Sum.inr p.1 : L2.Key) = Sum.inr n then ((Sum.inr p.1 : L2.Key), u) else (Sum.inr p.1, p.2)) = ((Sum.inr (if p.1 = n then (p.1, u) else p).1 : L2.Key), (if p.1 = n then (p.1, u) else p).2)
    by_cases q : p.1 = n
    · rw [if_pos q, if_pos (by rw [q])]
    · rw [if_neg q, if_neg (fun z => q (Sum.inr.inj z))]
  · rw [if_neg h, if_neg h, kk_eq, kk_eq, List.map_append]
    rfl
/-- a plan -/
abbrev Pl := List (PySem.Str × List Int × Bool)
def etD (e : List Int × Bool) : Dt := .tup [verD e.1, .tup ((if e.2 then [("f" : PySem.Str)] else []).map Dt.str)]
def plD (L : Pl) : Dt := .dic (L.map (·.1)) (L.map fun e => etD e.2)
theorem tu_et (e : List Int × Bool) : tuD (etD e) = true := by
  show (tuD (verD e.1) && (tuAll ((if e.2 then [("f" : PySem.Str)] else []).map Dt.str) && true)) = true
  rw [tu_ver, tu_map (fun _ => rfl)]; rfl
/-- a plan at d -/
structure PlAt (b : Addr) (H : Hp) (d : Addr) (L : Pl) (ks : List (PySem.Str × V)) : Prop where
  at_ : H d = some (.dK (kk ks))
  k : ks.map (·.1) = L.map (·.1)
  nd : (L.map (·.1)).Nodup
  v : RpAll b H (ks.map (·.2)) (L.map fun e => etD e.2)
theorem PlAt.rp {b : Addr} {H : Hp} {d : Addr} {L : Pl} {ks : List (PySem.Str × V)} (h : PlAt b H d L ks) (n : d ≠ b) : Rp b H (.ref d) (plD L) := by
  have := Rp.dic n (.inl h.at_) (by rw [h.k]; exact h.nd) h.v
  rw [h.k] at this
  exact this
theorem PlAt.kt {b c : Addr} {H H' : Hp} {d : Addr} {L : Pl} {ks : List (PySem.Str × V)} (h : PlAt b H d L ks) (k : KT H H') (e : H' d = some (.dK (kk ks))) : PlAt c H' d L ks := ⟨e, h.k, h.nd, rpa_kt k _ _ (tu_map (fun e => tu_et _) L) h.v⟩
theorem par_put {b : Addr} {H : Hp} {n : PySem.Str} {u : V} {e : List Int × Bool} (r : Rp b H u (etD e)) : ∀ (ks : List (PySem.Str × V)) (L : Pl), ks.map (·.1) = L.map (·.1) → RpAll b H (ks.map (·.2)) (L.map fun e => etD e.2) →
    RpAll b H ((ks.map fun p => if p.1 = n then (p.1, u) else p).map (·.2)) ((L.map fun p => if p.1 = n then (p.1, e) else p).map fun e => etD e.2)
  | [], [], _, _ => .nil
  | [], _ :: _, h, _ => by cases h
  | _ :: _, [], h, _ => by cases h
  | p :: ks, q :: L, h, k => by
    rw [List.map_cons, List.map_cons] at h
    injection h with h1 h2
    cases k with
    | cons k1 k2 =>
      have ih := par_put (n := n) r ks L h2 k2
      by_cases z : p.1 = n
      · have z2 : q.1 = n := h1.symm.trans z
        show RpAll b H ((if p.1 = n then (p.1, u) else p).2 :: _) (etD (if q.1 = n then (q.1, e) else q).2 :: _)
        rw [if_pos z, if_pos z2]
        exact .cons r ih
      · have z2 : ¬ q.1 = n := fun y => z (h1.trans y)
        show RpAll b H ((if p.1 = n then (p.1, u) else p).2 :: _) (etD (if q.1 = n then (q.1, e) else q).2 :: _)
        rw [if_neg z, if_neg z2]
        exact .cons k1 ih
theorem par_putA {b : Addr} {H : Hp} {n : PySem.Str} {u : V} {e : List Int × Bool} (r : Rp b H u (etD e)) {ks : List (PySem.Str × V)} {L : Pl} (hk : ks.map (·.1) = L.map (·.1)) (hv : RpAll b H (ks.map (·.2)) (L.map fun e => etD e.2)) :
    (putA ks n u).map (·.1) = (putA L n e).map (·.1) ∧ RpAll b H ((putA ks n u).map (·.2)) ((putA L n e).map fun e => etD e.2) := by
  refine ⟨?_, ?_⟩
  · rw [putA_keys, putA_keys, any_keys hk, hk]
  · unfold putA
    rw [any_keys hk]
    by_cases h : (L.any fun p => decide (p.1 = n)) = true
    · rw [if_pos h, if_pos h]
      exact par_put r ks L hk hv
    · rw [if_neg h, if_neg h, List.map_append, List.map_append]
      exact rp_app hv (.cons r .nil)
/-- drawn of a registry -/
structure PlOk (R : List Pk) (L : Pl) : Prop where
  of : ∀ e ∈ L, ∃ p ∈ R, e.1 = p.nm ∧ e.2.1 = p.vs
  nd : (L.map (·.1)).Nodup
theorem PlOk.few {R : List Pk} {L : Pl} (h : PlOk R L) (hR : RgOk R) : L.length ≤ 3 := by
  have := RX.nodup_le h.nd (ys := PNM) fun x hx => by
    obtain ⟨e, he, rfl⟩ := List.mem_map.mp hx
    obtain ⟨p, hp, e1, _⟩ := h.of e he
    rw [e1]; exact (hR.all p hp).nm
  rw [List.length_map] at this
  exact this
/-! texts of locks -/
def Pt : PySem.Str := "."
def wordsL (e : PySem.Str × List Int × Bool) : List PySem.Str := [("lock" : PySem.Str), e.1, Txt.join Pt (e.2.1.map num)] ++ (if e.2.2 then [(";" : PySem.Str), "with", "f"] else [])
def lockTx (S : Pl) : PySem.Str := Txt.join Nl (S.map fun e => Txt.join Bk (wordsL e))
theorem num_small {n : Int} (h : 0 ≤ n ∧ n < 1000000) : Tm 6 6 (num n) := by
  obtain ⟨m, rfl⟩ := Int.eq_ofNat_of_zero_le h.1
  have l : (num ((m : Nat) : Int)).length ≤ 6 := by
    rw [len_tl, show tl (num ((m : Nat) : Int)) = numL m from tl_num _]
    exact numL_len (by decide) (by have := h.2; omega)
  refine ⟨l, Nat.le_trans (W_dg_le _) l, fun c hc => ?_⟩
  have := numL_digits m c (by rw [← tl_num]; exact hc)
  omega
theorem tm_joinG {y : PySem.Str} {ps : List PySem.Str} {n g k : Nat} (hy : Tm 1 0 y) (h : ∀ p ∈ ps, Tm n g p) (hk : ps.length ≤ k) : Tm (k * n + k) (k * g) (Txt.join y ps) := by
  have m1 := Nat.mul_le_mul_right n hk
  have m2 := Nat.mul_le_mul_right g hk
  have a1 : (ps.map (·.length)).sum ≤ ps.length * n := sum_leN fun p hp => (h p hp).len
  have a2 : (ps.map (W dg)).sum ≤ ps.length * g := sum_leN fun p hp => (h p hp).dig
  refine ⟨?_, ?_, fun c hc => ?_⟩
  · have j := join_len y ps
    have := Nat.mul_le_mul_left ps.length hy.len
    omega
  · have j := (W_join (f := dg) y ps).1
    have z : W dg y = 0 := Nat.le_zero.mp hy.dig
    rw [z] at j
    omega
  · rcases mem_join hc with z | ⟨p, hp, z⟩
    · exact hy.ok c z
    · exact (h p hp).ok c z
def tmS (n g : Nat) (x : PySem.Str) : Bool := decide (x.length ≤ n) && decide (W dg x ≤ g) && (tl x).all fun c => decide (c < 0x110000)
theorem tmS_of {n g : Nat} {x : PySem.Str} (h : tmS n g x = true) : Tm n g x := by
  unfold tmS at h
  simp only [Bool.and_eq_true, decide_eq_true_eq, List.all_eq_true] at h
  exact ⟨h.1.1, h.1.2, h.2⟩
theorem ver_tm {v : List Int} (h : Vs v) : Tm 21 18 (Txt.join Pt (v.map num)) := by
  have := tm_joinG (y := Pt) (ps := v.map num) (n := 6) (g := 6) (k := 3) (tmS_of (by decide +kernel)) (fun p hp => by
    obtain ⟨n, hn, rfl⟩ := List.mem_map.mp hp
    exact num_small (h.2 n hn)) (by rw [List.length_map, h.1]; exact Nat.le_refl _)
  exact this.up (by decide) (by decide)
theorem line_tm {e : PySem.Str × List Int × Bool} (h1 : e.1 ∈ PNM) (h2 : Vs e.2.1) : Tm 132 108 (Txt.join Bk (wordsL e)) := by
  have := tm_joinG (y := Bk) (ps := wordsL e) (n := 21) (g := 18) (k := 6) (tmS_of (by decide +kernel)) (fun p hp => by
    unfold wordsL at hp
    rcases List.mem_append.mp hp with hp | hp
    · simp only [List.mem_cons, List.not_mem_nil, or_false] at hp
      rcases hp with rfl | rfl | rfl
      · exact tmS_of (by decide +kernel)
      · exact tmS_of ((show ∀ n ∈ PNM, tmS 21 18 n = true by decide +kernel) _ h1)
      · exact ver_tm h2
    · split at hp
      · exact tmS_of ((show ∀ n ∈ ([(";" : PySem.Str), "with", "f"]), tmS 21 18 n = true by decide +kernel) p hp)
      · cases hp) (by unfold wordsL; rw [List.length_append]; split <;> (simp only [List.length_cons, List.length_nil]; omega))
  exact this.up (by decide) (by decide)
theorem lock_tm {R : List Pk} {L S : Pl} (h : PlOk R L) (hR : RgOk R) (p : S.Perm L) : Tm 400 330 (lockTx S) := by
  have := tm_joinG (y := Nl) (ps := S.map fun e => Txt.join Bk (wordsL e)) (n := 132) (g := 108) (k := 3) (tmS_of (by decide +kernel)) (fun q hq => by
    obtain ⟨e, he, rfl⟩ := List.mem_map.mp hq
    obtain ⟨pk, hpk, e1, e2⟩ := h.of e (p.mem_iff.mp he)
    exact line_tm (by rw [e1]; exact (hR.all pk hpk).nm) (by rw [e2]; exact (hR.all pk hpk).vs)) (by rw [List.length_map, p.length_eq]; exact h.few hR)
  exact this.up (by decide) (by decide)
end DK
/-! Numbers behind beginnings of paths. -/
namespace DK
open PySem PySem.Spec PyProof.Rows L2 TL RX
def ov : Option Int → V | none => .non | some i => .int i
def numsF (h : PySem.Str) (F : Fl) : List Int := F.filterMap fun p => numW h p.1
/-- the paths of drawn files -/
def KTR : List PySem.Str := PNM.flatMap fun n => (somP n).map fun p => ("tree/" : PySem.Str) ++ p
def KOT : List PySem.Str := ["tree/old", "tree/z/z", "mine", "store/new", "store/c01", "store/c-1", "gen/new", "gen", "tree"]
def KSH : List PySem.Str := ["store/c0", "store/c1", "store/c2", "store/c3", "store/c7"]
def KLO : List PySem.Str := ["lock", "log", "log-new"]
def KEYS : List PySem.Str := KTR ++ (KOT ++ (KSH ++ KLO))
theorem keys_few : KEYS.length = 29 := by decide +kernel
theorem keys_ok : ∀ k ∈ KEYS, tmS 30 5 k = true := by decide +kernel
theorem keys_num : ∀ k ∈ KEYS, ∀ n, numW ShP k = some n → n ∈ ([0, 1, 2, 3, 7] : List Int) := by
  have : ∀ k ∈ KEYS, (numW ShP k).all fun n => decide (n ∈ ([0, 1, 2, 3, 7] : List Int)) := by decide +kernel
  intro k hk n h
  have z := this k hk
  rw [h] at z
  exact of_decide_eq_true z
/-- drawn files -/
structure FsOk (F : Fl) : Prop where
  k : ∀ p ∈ F, p.1 ∈ KEYS
  c : ∀ p ∈ F, Tm 500 450 p.2
  nd : (F.map (·.1)).Nodup
theorem FsOk.few {F : Fl} (h : FsOk F) : F.length ≤ 29 := by
  have := RX.nodup_le h.nd (ys := KEYS) fun x hx => by
    obtain ⟨e, he, rfl⟩ := List.mem_map.mp hx
    exact h.k e he
  rw [List.length_map, keys_few] at this
  exact this
theorem FsOk.put {F : Fl} (h : FsOk F) {x c : PySem.Str} (hx : x ∈ KEYS) (hc : Tm 500 450 c) : FsOk (putF F x c) := by
  refine ⟨fun p hp => ?_, fun p hp => ?_, put_nd h.nd _ _⟩
  · rcases put_mem hp with z | z
    · exact h.k p z
    · rw [z]; exact hx
  · rcases put_mem hp with z | z
    · exact h.c p z
    · rw [z]; exact hc
theorem FsOk.nil : FsOk [] := ⟨(fun p hp => by cases hp), (fun p hp => by cases hp), List.nodup_nil⟩
end DK
/-! Logs at a place; drawn ones. -/
namespace DK
open PySem PySem.Spec PyProof.Rows L2 TL RX
def RwA (H : Hp) (vs : List V) (R : List (List PySem.Str)) : Prop := Paired (fun u ws => ∃ q, u = V.ref q ∧ H q = some (.tup (ws.map V.str))) vs R
theorem RwA.kt {H H' : Hp} {vs : List V} {R : List (List PySem.Str)} (h : RwA H vs R) (s : KT H H') : RwA H' vs R := pd_imp (fun _ _ ⟨q, e, z⟩ => ⟨q, e, s _ _ z⟩) h
def LgA (H : Hp) (v : V) (g : Lg) : Prop := ∃ a p vs, v = .ref a ∧ H a = some (.tup [.ref p, .str g.2]) ∧ H p = some (.tup vs) ∧ Paired (fun u ws => ∃ q, u = V.ref q ∧ H q = some (.tup (ws.map V.str))) vs g.1
theorem lines_fitA {g : Lg} (h : GOk g) : (((headT g.1.length :: (g.1.map (Txt.join Bk) ++ ["lock " ++ g.2])).map (·.length)).sum + (headT g.1.length :: (g.1.map (Txt.join Bk) ++ ["lock " ++ g.2])).length * Nl.length ≤ 16777216) ∧ (headT g.1.length).length ≤ 10 := by
  have h1 : (headT g.1.length).length ≤ 10 := by
    unfold headT
    rw [strLen_append]
    have : (num ((g.1.length : Nat) : Int)).length ≤ 6 := by
      rw [len_tl, show tl (num ((g.1.length : Nat) : Int)) = numL g.1.length from tl_num _]
      exact numL_len (by decide) (by have := h.few; omega)
    have e : ("log " : PySem.Str).length = 4 := by decide +kernel
    omega
  refine ⟨?_, h1⟩
  have e1 : ("lock " ++ g.2 : PySem.Str).length ≤ 105 := by
    rw [strLen_append]
    have := h.l
    have e : ("lock " : PySem.Str).length = 5 := by decide +kernel
    omega
  have hb : Nl.length = 1 := by decide +kernel
  have hs : ((g.1.map (Txt.join Bk)).map (·.length)).sum ≤ g.1.length * 303 := by
    have : ∀ ws ∈ g.1, (Txt.join Bk ws).length ≤ 303 := fun ws hw => by
      obtain ⟨h3, h4⟩ := h.w ws hw
      have jl := join_len Bk ws
      have hb : Bk.length = 1 := by decide +kernel
      have s := sum_le h4
      have m : ws.length * 100 ≤ 3 * 100 := Nat.mul_le_mul_right _ h3
      rw [hb] at jl
      omega
    have := sum_le (ps := g.1.map (Txt.join Bk)) (m := 303) (fun p hp => by obtain ⟨ws, hw, rfl⟩ := List.mem_map.mp hp; exact this ws hw)
    rw [List.length_map] at this
    exact this
  rw [List.map_cons, List.sum_cons, List.map_append, List.sum_append, List.length_cons, List.length_append, List.length_map, hb]
  have := h.few
  have : g.1.length * 303 ≤ 100 * 303 := Nat.mul_le_mul_right _ h.few
  simp only [List.map_cons, List.map_nil, List.sum_cons, List.sum_nil, List.length_cons, List.length_nil]
  omega

def spLogA : Sp := fun vs H Q _ => ∃ (v : V) (g : Lg), vs = [v] ∧ LgA H v g ∧ GOk g ∧ ∀ H', Same H H' → Q (.str (logT g)) H'
theorem log_tm3 {g : Lg} (h : ∀ ws ∈ g.1, ws.length ≤ 3 ∧ ∀ x ∈ ws, Tm 10 3 x) (hl : Tm 10 3 g.2) (few : g.1.length ≤ 3) : Tm 250 60 (logT g) ∧ GOk g := by
  refine ⟨?_, ⟨by omega, fun ws hw => ⟨(h ws hw).1, fun x hx => by have := ((h ws hw).2 x hx).len; omega⟩, by have := hl.len; omega⟩⟩
  have hd : Tm 33 9 (headT g.1.length) := by
    have : ∀ n ∈ [0, 1, 2, 3], tmS 33 9 (headT n) = true := by decide +kernel
    exact tmS_of (this _ (by simp only [List.mem_cons, List.not_mem_nil, or_false]; omega))
  have := tm_joinG (y := Nl) (ps := headT g.1.length :: (g.1.map (Txt.join Bk) ++ ["lock " ++ g.2])) (n := 33) (g := 9) (k := 5) (tmS_of (by decide +kernel)) (fun p hp => by
    rcases List.mem_cons.mp hp with e | hp
    · rw [e]; exact hd
    · rcases List.mem_append.mp hp with hp | hp
      · obtain ⟨ws, hw, rfl⟩ := List.mem_map.mp hp
        exact (tm_joinG (y := Bk) (n := 10) (g := 3) (k := 3) (tmS_of (by decide +kernel)) (h ws hw).2 (h ws hw).1).up (by decide) (by decide)
      · rw [List.mem_singleton.mp hp]
        exact ((tmS_of (n := 5) (g := 0) (x := "lock ") (by decide +kernel)).app hl).up (by decide) (by decide)) (by rw [List.length_cons, List.length_append, List.length_map, List.length_singleton]; omega)
  exact this.up (by decide) (by decide)
def SHL : List PySem.Str := ["store/c0", "store/c1", "store/c2", "store/c3", "store/c7", "store/c77"]
def DPA : List PySem.Str := ["app", "app/doc", "bin/b", "old", "z/z"]
theorem shl_tm : ∀ x ∈ SHL, tmS 10 3 x = true := by decide +kernel
theorem dpa_tm : ∀ x ∈ DPA, tmS 10 3 x = true := by decide +kernel
theorem shl_num : ∀ n ∈ ([0, 1, 2, 3, 7] : List Int), ("store/c" ++ num n : PySem.Str) ∈ SHL := by decide +kernel
end DK
/-! Couples of files. -/
namespace DK
open PySem PySem.Spec PyProof.Rows L2 TL RX
theorem merge_nd : ∀ (more kvs : List (L2.Key × V)), ((kvs ++ more).map (·.1)).Nodup → mergeK kvs more = kvs ++ more
  | [], kvs, _ => (List.append_nil kvs).symm
  | kv :: more, kvs, h => by
    have hn : valV kvs kv.1 = none := by
      cases e : valV kvs kv.1 with
      | none => rfl
      | some v =>
        have hm : kv.1 ∈ kvs.map (·.1) := by
          clear h
          induction kvs with
          | nil => cases e
          | cons p r ih =>
            by_cases z : p.1 = kv.1
            · rw [← z]; exact List.mem_cons_self
            · rw [valV_neg z] at e
              exact List.mem_cons_of_mem _ (ih e)
        rw [List.map_append, List.nodup_append] at h
        exact absurd rfl (h.2.2 kv.1 hm kv.1 (by rw [List.map_cons]; exact List.mem_cons_self))
    show mergeK (putK kvs kv.1 kv.2) more = _
    rw [putK_new _ hn]
    have e : kvs ++ [(kv.1, kv.2)] ++ more = kvs ++ kv :: more := by simp
    rw [merge_nd more (kvs ++ [(kv.1, kv.2)]) (by rw [e]; exact h), e]
abbrev Cps := List (Addr × (PySem.Str × PySem.Str))
def rfc (L : Cps) : List V := L.map fun q => V.ref q.1
def CpA (H : Hp) (L : Cps) : Prop := ∀ q ∈ L, H q.1 = some (.tup [.str q.2.1, .str q.2.2])
theorem CpA.kt {H H' : Hp} {L : Cps} (h : CpA H L) (k : KT H H') : CpA H' L := fun q hq => k _ _ (h q hq)
theorem cps_back {H H' : Hp} : ∀ {as : List Addr} {F : Fl}, Paired (fun (b : Addr) (kv : L2.Key × V) => H b = none ∧ H' b = some (.tup [kV kv.1, kv.2])) as (kf F) → ∃ L : Cps, as = L.map (·.1) ∧ CpA H' L ∧ L.map (·.2) = F
  | _, [], .nil => ⟨[], rfl, (fun q hq => by cases hq), rfl⟩
  | _, p :: F, .cons a b => by
    obtain ⟨L, e1, e2, e3⟩ := cps_back b
    refine ⟨(_, p) :: L, by rw [e1]; rfl, fun q hq => ?_, by rw [List.map_cons, e3]⟩
    rcases List.mem_cons.mp hq with z | z
    · rw [z]; exact a.2
    · exact e2 q z
theorem cps_dict {K : PySem.W.Frag} {H : Hp} : ∀ {L : Cps}, CpA H L → Paired (fun (p : Addr) (kv : L2.Key × V) => SqT K H p [kV kv.1, kv.2]) (L.map (·.1)) (kf (L.map (·.2)))
  | [], _ => .nil
  | q :: L, h => .cons (.inl (.inl (h q List.mem_cons_self))) (cps_dict fun r hr => h r (List.mem_cons_of_mem _ hr))
theorem kf_nd {F : Fl} (nd : (F.map (·.1)).Nodup) : ((kf F).map (·.1)).Nodup := by
  rw [kf_keys]
  exact List.Pairwise.map _ (fun a b h e => h (Sum.inr.inj e)) nd
theorem ktr_mem {n p : PySem.Str} (hn : n ∈ PNM) (hp : p ∈ somP n) : ("tree/" ++ p : PySem.Str) ∈ KEYS := List.mem_append_left _ (List.mem_flatMap.mpr ⟨n, hn, List.mem_map.mpr ⟨p, hp, rfl⟩⟩)
theorem kot_mem {p : PySem.Str} (h : p ∈ KOT) : p ∈ KEYS := List.mem_append_right _ (List.mem_append_left _ h)
theorem ksh_num : ∀ n ∈ ([0, 1, 2, 3, 7] : List Int), ("store/c" ++ num n : PySem.Str) ∈ KEYS := by decide +kernel
theorem klo_mem {p : PySem.Str} (h : p ∈ KLO) : p ∈ KEYS := List.mem_append_right _ (List.mem_append_right _ (List.mem_append_right _ h))
def CTS : List PySem.Str := ["", "x", "go", "a\nb", "before", "x", "yy"]
theorem cts_tm : ∀ x ∈ CTS, tmS 500 450 x = true := by decide +kernel
theorem odc_tm : ∀ x ∈ ODC, tmS 500 450 x = true := by decide +kernel
end DK
/-! The tree that stands on files, purely. -/
namespace DK
open PySem PySem.Spec PyProof.Rows L2 TL RX
theorem asc_pair {fs : List PySem.Str} : TX.Asc fs ↔ fs.Pairwise fun a b => a.cps.toList < b.cps.toList := by rw [← asc_iff, asc_all]
theorem app_lt {l x y : List Nat} : l ++ x < l ++ y ↔ x < y := by
  induction l with
  | nil => exact Iff.rfl
  | cons a l ih =>
    rw [List.cons_append, List.cons_append, List.cons_lt_cons_iff]
    exact ⟨fun h => h.elim (fun z => absurd z (Nat.lt_irrefl _)) fun z => ih.mp z.2, fun h => .inr ⟨rfl, ih.mpr h⟩⟩
def TrP : PySem.Str := "tree/"
def treeF (F : Fl) : Fl := (F.filter fun p => begins TrP p.1).map fun p => (behind TrP p.1, p.2)
theorem beg_tl {x h : PySem.Str} (b : begins h x = true) : tl x = tl h ++ tl (behind h x) := by
  have := congrArg tl (begins_eq b)
  rw [tl_append] at this
  exact this
theorem tree_inj {p q : PySem.Str} (a : begins TrP p = true) (b : begins TrP q = true) (h : behind TrP p = behind TrP q) : p = q := by
  refine ext_tl ?_
  rw [beg_tl a, beg_tl b, h]
theorem tree_nd {F : Fl} (nd : (F.map (·.1)).Nodup) : ((treeF F).map (·.1)).Nodup := by
  unfold treeF
  rw [List.map_map]
  have h1 : ((F.filter fun p => begins TrP p.1).map (·.1)).Nodup := (List.filter_sublist.map _).nodup nd
  have : ∀ G : Fl, (∀ p ∈ G, begins TrP p.1 = true) → (G.map (·.1)).Nodup → (G.map ((·.1) ∘ fun p => (behind TrP p.1, p.2))).Nodup := by
    intro G
    induction G with
    | nil => intro _ _; exact List.nodup_nil
    | cons p G ih =>
      intro hb hn
      rw [List.map_cons] at hn ⊢
      obtain ⟨n1, n2⟩ := List.nodup_cons.mp hn
      refine List.nodup_cons.mpr ⟨fun m => n1 ?_, ih (fun q hq => hb q (List.mem_cons_of_mem _ hq)) n2⟩
      obtain ⟨q, hq, e⟩ := List.mem_map.mp m
      have := tree_inj (hb q (List.mem_cons_of_mem _ hq)) (hb p List.mem_cons_self) e
      rw [← this]
      exact List.mem_map_of_mem hq
  exact this _ (fun p hp => (List.mem_filter.mp hp).2) h1
theorem tree_perm {F G : Fl} (p : F.Perm G) : (treeF F).Perm (treeF G) := (p.filter _).map _
theorem tree_ord {F S : Fl} (nd : (F.map (·.1)).Nodup) (o : Ord F S) : Ord (treeF F) (treeF S) := by
  have ndS : (S.map (·.1)).Nodup := ((o.p.map (·.1)).nodup_iff).mpr nd
  have pw : (S.map (·.1)).Pairwise fun a b => a.cps.toList < b.cps.toList := asc_pair.mp ⟨o.s, ndS⟩
  have key : ∀ G : Fl, (∀ p ∈ G, begins TrP p.1 = true) → (G.map (·.1)).Pairwise (fun a b => a.cps.toList < b.cps.toList) → (G.map ((·.1) ∘ fun p => (behind TrP p.1, p.2))).Pairwise (fun a b => a.cps.toList < b.cps.toList) := by
    intro G
    induction G with
    | nil => intro _ _; exact .nil
    | cons p G ih =>
      intro hb hn
      rw [List.map_cons] at hn ⊢
      obtain ⟨n1, n2⟩ := List.pairwise_cons.mp hn
      refine List.pairwise_cons.mpr ⟨fun x hx => ?_, ih (fun q hq => hb q (List.mem_cons_of_mem _ hq)) n2⟩
      obtain ⟨q, hq, rfl⟩ := List.mem_map.mp hx
      have h1 : tl p.1 < tl q.1 := n1 q.1 (List.mem_map_of_mem hq)
      rw [beg_tl (hb p List.mem_cons_self), beg_tl (hb q (List.mem_cons_of_mem _ hq))] at h1
      exact app_lt.mp h1
  refine ⟨?_, tree_perm o.p⟩
  have h1 : ((S.filter fun p => begins TrP p.1).map (·.1)).Pairwise fun a b => a.cps.toList < b.cps.toList := List.Pairwise.sublist (List.filter_sublist.map _) pw
  have h2 := key _ (fun p hp => (List.mem_filter.mp hp).2) h1
  unfold treeF
  rw [List.map_map]
  exact (asc_pair.mpr h2).1
end DK
/-! Dicts made of sorted paths. -/
namespace DK
open PySem PySem.Spec PyProof.Rows L2 TL RX
/-- a dict made of a list, item by item -/
theorem dc_list {K : PySem.W.Frag} {a : Addr} {xs : List V} {g : TG} {tt : TT} {tk tv : TE} {vs : List Nat} {σ : L2.St} {H1 : Hp} {D : Addr} {Qd : Hp → Prop} (Pv : Nat → Hp → Prop) (h0 : Pv 0 (upd H1 D (.dK []))) (hl : ∀ i H, i ≤ xs.length → Pv i H → SqL K H a xs)
    (hs : ∀ i x H, xs[i]? = some x → Pv i H → g x (wipe σ vs) H fun s2 H2 => wipe s2 vs = wipe σ vs ∧ tt s2 H2 fun b H3 =>
      if b = true then tk s2 H3 fun y H4 => tv s2 H4 fun z H5 => ∃ kvs k, y = kV k ∧ H5 D = some (.dK kvs) ∧ kvs.length < sizeLine ∧ Pv (i + 1) (upd H5 D (.dK (putK kvs k z))) else Pv (i + 1) H3) (hd : ∀ H, Pv xs.length H → Qd H) :
    ∃ W : Nat → Nat → Hp → Prop, (∃ m, W 0 m (upd H1 D (.dK []))) ∧ ∀ i m H, W i m H →
      ((Itl K a).stop i H ∧ Qd H) ∨ ((Itl K a).go i H ∧ ∃ Nx : Hp → Prop, (∀ H', Nx H' → ∃ m', m' < m ∧ W (i + 1) m' H') ∧ ∀ x H', (Itl K a).yld i H x H' → g x (wipe σ vs) H' fun s2 H2 => wipe s2 vs = wipe σ vs ∧ tt s2 H2 fun b H3 =>
        if b = true then tk s2 H3 fun y H4 => tv s2 H4 fun z H5 => ∃ kvs k, y = kV k ∧ H5 D = some (.dK kvs) ∧ kvs.length < sizeLine ∧ Nx (upd H5 D (.dK (putK kvs k z))) else Nx H3) := by
  refine ⟨fun i m H => (m = xs.length - i ∧ i ≤ xs.length) ∧ Pv i H, ⟨xs.length, ⟨rfl, Nat.zero_le _⟩, h0⟩, ?_⟩
  rintro i m H ⟨⟨rfl, hi⟩, p⟩
  have q := hl i H hi p
  rcases Nat.lt_or_ge i xs.length with lt | ge
  · refine .inr ⟨⟨xs, xs[i], q, List.getElem?_eq_getElem lt⟩, Pv (i + 1), fun H' p' => ⟨xs.length - (i + 1), by omega, ⟨rfl, lt⟩, p'⟩, fun x H' y => ?_⟩
    obtain ⟨rfl, y2⟩ := y
    have e := y2 xs q
    exact hs i x _ e p
  · have e : i = xs.length := Nat.le_antisymm hi ge
    subst e
    exact .inl ⟨⟨xs, q, Nat.le_refl _⟩, hd H p⟩
section
variable {X : Cx} {K : PySem.W.Frag} {o e : Expr} {es : List Expr} {to : TE} {t : TA} {name : Str} {apos cpos : Pos} {T id : String} {r : V → List V → Hp → VK → Prop}
theorem pe_bmK (pa : PlainAttrs T) (slot : Slot T name id) (hty : typeOf (.builtin id) = pure (.type "method_descriptor")) (hm : MtR X id r) (ho : PE X o to) (ha : PA X (e :: es) t) (hK : X.K = K := by rfl)
    (hbase : attributeBase o name X.env (eval o X.env) = eval o X.env := by rfl)
    (hfew : ((backTo cpos (starEach (e :: es) X.env)).all (fun x => !x.1) && (backToKw cpos (keywordEach [] X.env)).all (fun x => x.1.isSome)
      && decide ((e :: es).length + ([] : List Keyword).length + (if ([] : List Keyword).isEmpty then 0 else 1) < 30)) = true := by rfl)
    (hline : (apos.endLine == cpos.line) = true := by rfl) (hs : starEach (e :: es) X.env = (false, eval e X.env) :: starEach es X.env := by rfl) (hplain : (backTo cpos (starEach es X.env)).any (·.1) = false := by rfl) :
    PE X (.Call (.Attribute o name apos) (e :: es) [] cpos) (tBM K T r to t) := by
  subst hK
  exact pe_bm pa slot hty hm ho ha hbase hfew hline hs hplain
end
/-- the files of some paths -/
def prF (F : Fl) (ys : List PySem.Str) : Fl := ys.map fun y => (y, (getF F y).getD "")
theorem prF_keys (F : Fl) (ys : List PySem.Str) : (prF F ys).map (·.1) = ys := by
  unfold prF
  rw [List.map_map]
  exact List.map_id ys
theorem get_some {F : Fl} {x : PySem.Str} (h : x ∈ F.map (·.1)) : ∃ c, getF F x = some c := by
  cases z : getF F x with
  | some c => exact ⟨c, rfl⟩
  | none => exact absurd h (get_none.mp z)
theorem prF_ord {F : Fl} {ys : List PySem.Str} (nd : (F.map (·.1)).Nodup) (pm : ys.Perm (F.map (·.1))) (s : sortedS ys = true) : Ord F (prF F ys) := by
  refine ⟨by rw [prF_keys]; exact s, ?_⟩
  have n2 : ((prF F ys).map (·.1)).Nodup := by rw [prF_keys]; exact pm.nodup_iff.mpr nd
  refine perm_get n2 nd fun x => ?_
  cases z : getF F x with
  | none =>
    refine get_none.mpr fun m => get_none.mp z ?_
    rw [prF_keys] at m
    exact pm.mem_iff.mp m
  | some c =>
    have m : x ∈ ys := pm.mem_iff.mpr (List.mem_map_of_mem (f := (·.1)) (get_mem z))
    have : (x, c) ∈ prF F ys := List.mem_map.mpr ⟨x, m, by rw [z]; rfl⟩
    exact mem_get n2 this
theorem tree_app (F : Fl) (p : PySem.Str × PySem.Str) : treeF (F ++ [p]) = if begins TrP p.1 = true then treeF F ++ [(behind TrP p.1, p.2)] else treeF F := by
  unfold treeF
  rw [List.filter_append, List.map_append]
  by_cases b : begins TrP p.1 = true
  · rw [if_pos b, List.filter_cons_of_pos (p := fun p : PySem.Str × PySem.Str => begins TrP p.1) b]; rfl
  · rw [if_neg b, List.filter_cons_of_neg (p := fun p : PySem.Str × PySem.Str => begins TrP p.1) b, List.filter_nil, List.map_nil, List.append_nil]
theorem put_new {F : Fl} {x c : PySem.Str} (h : x ∉ F.map (·.1)) : putF F x c = F ++ [(x, c)] := by
  unfold putF
  rw [any_get, get_none.mpr h]
  rfl
end DK
/-! sorted(xs), xs a list of couples of texts. -/
namespace DK
open PySem PySem.Spec PyProof.Rows L2 TL RX
def lexT (p q : PySem.Str × PySem.Str) : Bool := if p.1 = q.1 then decide (p.2.cps.toList < q.2.cps.toList) else decide (p.1.cps.toList < q.1.cps.toList)
theorem lt_or {a b : List Nat} (h : ¬ a < b) (e : a ≠ b) : b < a := by
  have h1 : b ≤ a := List.not_lt.mp h
  by_cases q : b < a
  · exact q
  · exact absurd (List.le_antisymm (List.not_lt.mp q) h1) e
theorem cps_ne {x y : PySem.Str} (h : ¬ x = y) : x.cps.toList ≠ y.cps.toList := fun e => h (TX.str_ext e)
theorem lexT_iff {p q : PySem.Str × PySem.Str} : lexT p q = true ↔ p.1.cps.toList < q.1.cps.toList ∨ (p.1 = q.1 ∧ p.2.cps.toList < q.2.cps.toList) := by
  unfold lexT
  by_cases e : p.1 = q.1
  · rw [if_pos e, decide_eq_true_eq]
    exact ⟨fun h => .inr ⟨e, h⟩, fun h => h.elim (fun z => absurd z (by rw [e]; exact List.lt_irrefl _)) fun z => z.2⟩
  · rw [if_neg e, decide_eq_true_eq]
    exact ⟨fun h => .inl h, fun h => h.elim id fun z => absurd z.1 e⟩
theorem lexT_no {p q : PySem.Str × PySem.Str} : lexT p q = false ↔ ¬ (p.1.cps.toList < q.1.cps.toList ∨ (p.1 = q.1 ∧ p.2.cps.toList < q.2.cps.toList)) := by
  rw [← lexT_iff]
  cases lexT p q <;> simp
theorem swo_lexT {α : Type} (k : α → PySem.Str × PySem.Str) : SrtO.Swo fun v u => lexT (k v) (k u) := by
  refine ⟨fun x y h => ?_, fun x y z h1 h2 => ?_⟩
  · have a := lexT_iff.mp h
    refine lexT_no.mpr fun b => ?_
    rcases a with a | ⟨a1, a2⟩ <;> rcases b with b | ⟨b1, b2⟩
    · exact List.lt_irrefl _ (List.lt_trans a b)
    · rw [b1] at a; exact List.lt_irrefl _ a
    · rw [a1] at b; exact List.lt_irrefl _ b
    · exact List.lt_irrefl _ (List.lt_trans a2 b2)
  · have a := lexT_no.mp h1
    have b := lexT_no.mp h2
    refine lexT_no.mpr fun c => ?_
    have a1 := not_or.mp a
    have b1 := not_or.mp b
    rcases c with c | ⟨c1, c2⟩
    · rcases Decidable.em ((k y).1 = (k x).1) with e | e
      · rw [← e] at c; exact b1.1 c
      · exact b1.1 (List.lt_trans c (lt_or a1.1 (cps_ne e)))
    · rcases Decidable.em ((k y).1 = (k x).1) with e | e
      · have n1 : ¬ (k y).2.cps.toList < (k x).2.cps.toList := fun q => a1.2 ⟨e, q⟩
        have e2 : (k z).1 = (k y).1 := c1.trans e.symm
        have n2 : ¬ (k z).2.cps.toList < (k y).2.cps.toList := fun q => b1.2 ⟨e2, q⟩
        rcases Decidable.em ((k y).2 = (k x).2) with e3 | e3
        · rw [← e3] at c2; exact n2 c2
        · exact n2 (List.lt_trans c2 (lt_or n1 (cps_ne e3)))
      · have := lt_or a1.1 (cps_ne e)
        rw [← c1] at this
        exact b1.1 this
section
variable {prog : Program} {w : World} {A : Around} {E : Value → Shared → Prop} {s : Shared}
def IsPT (h : Heap) (v : Value) (x y : PySem.Str) : Prop := ∃ a o t u n, v = .ref a ∧ h.get? a = some o ∧ o.cls = .type "tuple" ∧ o.data = .seq #[.str x t, .str y u] n
theorem IsPT.keeps {h h' : Heap} {v : Value} {x y : PySem.Str} (p : IsPT h v x y) (k : ∀ b o, h.get? b = some o → o.cls = .type "tuple" → h'.get? b = some o) : IsPT h' v x y := by
  obtain ⟨a, o, t, u, n, e, ho, hc, hd⟩ := p
  exact ⟨a, o, t, u, n, e, k a o ho hc, hc, hd⟩
theorem pt_cmp {vs : List Value} {k : Value → PySem.Str × PySem.Str} (hp : ∀ v ∈ vs, IsPT s.heap v (k v).1 (k v).2) : SrtO.Cmp prog w A s (tuples' true) (fun p => p.1 ∈ vs) (SrtO.lt2 fun v u => lexT (k v) (k u)) := by
  intro p q hm hm'
  have h1 := hp _ hm
  have h2 := hp _ hm'
  show wpAny (model prog w) A (keyLt' (tuples' true) p.1 q.1) (fun r s' => s' = s ∧ r = lexT (k p.1) (k q.1)) (fun _ _ => False) s
  unfold lexT
  generalize (k p.1).1 = x at h1 ⊢
  generalize (k p.1).2 = y at h1 ⊢
  generalize (k q.1).1 = x' at h2 ⊢
  generalize (k q.1).2 = y' at h2 ⊢
  obtain ⟨a, o, t, u, n, e, ho, hc, hd⟩ := h1
  obtain ⟨a', o', t', u', n', e', ho', hc', hd'⟩ := h2
  rw [e, e']
  refine PySem.W.kat_lt ho hd ho' hd' ?_
  show PySem.W.KatLex prog w A true (decide (2 < 2)) _ [(.str x t, .str x' t'), (.str y u, .str y' u')] 0 s
  refine PySem.W.kat_cons (SeqAt.EqAt.str_str x t x' t' prog w _ _ ?_)
  refine PySem.W.kat_go (fun e1 => ?_) (fun e1 => ?_)
  · have ex : x = x' := by simpa using e1
    refine PySem.W.kat_yes (PySem.W.kat_cons (SeqAt.EqAt.str_str y u y' u' prog w _ _ ?_))
    refine PySem.W.kat_go (fun e2 => ?_) (fun e2 => ?_)
    · have ey : y = y' := by simpa using e2
      have e3 : (if x = x' then decide (y.cps.toList < y'.cps.toList) else decide (x.cps.toList < x'.cps.toList)) = false := by
        rw [if_pos ex, ey]
        exact decide_eq_false (List.lt_irrefl _)
      exact PySem.W.kat_yes (PySem.W.kat_nil ⟨rfl, e3.symm⟩)
    · have e3 : (if x = x' then decide (y.cps.toList < y'.cps.toList) else decide (x.cps.toList < x'.cps.toList)) = decide (y.cps.toList < y'.cps.toList) := if_pos ex
      exact PySem.W.kat_no (PyProof.Rows.oneLt_any_str ⟨rfl, e3.symm⟩)
  · have ex : ¬ x = x' := by simpa using e1
    have e3 : (if x = x' then decide (y.cps.toList < y'.cps.toList) else decide (x.cps.toList < x'.cps.toList)) = decide (x.cps.toList < x'.cps.toList) := if_neg ex
    exact PySem.W.kat_no (PyProof.Rows.oneLt_any_str ⟨rfl, e3.symm⟩)
end
end DK
/-! sorted(xs), xs a list of couples of texts: the rule. -/
namespace DK
open PySem PySem.Spec PyProof.Rows L2 TL RX
section
variable {prog : Program} {w : World} {A : Around} {E : Value → Shared → Prop} {s : Shared}
theorem tups_of {h : Heap} {k : Value → PySem.Str × PySem.Str} : ∀ {vs : List Value}, (∀ v ∈ vs, IsPT h v (k v).1 (k v).2) → ∃ fs, TupsOf h (fun _ => true) vs fs ∧ fs.length = vs.length
  | [], _ => ⟨[], .nil, rfl⟩
  | v :: vs, hp => by
    obtain ⟨fs, h1, h2⟩ := tups_of (vs := vs) fun u hu => hp u (List.mem_cons_of_mem _ hu)
    obtain ⟨a, o, t, u, n, e, ho, hc, hd⟩ := hp v List.mem_cons_self
    exact ⟨.str (k v).1 t :: fs, .cons ⟨a, o, _, n, e, ho, hc, hd, rfl, (fun z => by cases z), fun _ => ⟨_, _, rfl⟩⟩ h1, by rw [List.length_cons, List.length_cons, h2]⟩
theorem pt_sortable {a : Addr} {vs : List Value} {k : Value → PySem.Str × PySem.Str} (h0 : 0 < vs.length) (hp : ∀ v ∈ vs, IsPT s.heap v (k v).1 (k v).2) (ha : ∀ o, s.heap.get? a = some o → o.cls ≠ .type "tuple") : SrtO.SortableO prog w A s a vs fun v u => lexT (k v) (k u) := by
  intro h' keep
  have hp' : ∀ v ∈ vs, IsPT h' v (k v).1 (k v).2 := fun v hm => (hp v hm).keeps fun b o e c => keep b o (fun z => by subst z; exact ha o e c) e
  obtain ⟨fs, h1, h2⟩ := tups_of hp'
  exact ⟨tuples' true, fun Q E hq => tup_kind (by omega) h1 hq, pt_cmp hp'⟩
theorem sorted_pt {l : Addr} {vs : List Value} {k : Value → PySem.Str × PySem.Str} {Q : Value → Shared → Prop} (hl : s.heap.IsList l vs.toArray) (hz : vs.length ≤ sizeLine) (hp : ∀ v ∈ vs, IsPT s.heap v (k v).1 (k v).2)
    (h : ∀ (h' : Heap) (d : Addr) (out : List Value), SrtO.Srtd (fun v u => lexT (k v) (k u)) out → SrtO.Stb (fun v u => lexT (k v) (k u)) out vs → (∀ b o, s.heap.get? b = some o → h'.get? b = some o) → s.heap.objs.size ≤ d → (∃ n, h'.get? d = some (seqObj "list" out.toArray n)) → Q (.ref d) { s with heap := h' }) :
    wpAny (model prog w) A (call (.builtin "sorted") [.ref l]) Q E s := by
  refine SrtO.sorted_ord (swo_lexT k) hl hz (fun h2 h₁ a ha kk => ?_) fun out hs hb => ?_
  · refine pt_sortable (s := { s with heap := h₁ }) (by omega) (fun v hm => (hp v hm).keeps fun b o e _ => (kk b o e).2) fun o e => ?_
    have e' : some o = some (seqObj "list" vs.toArray 0) := e.symm.trans ha
    cases e'
    intro c
    exact absurd (Value.type.inj c) (by decide)
  · exact h _ _ out hs hb (fun b o e => sortedAll_old e) (Nat.le_succ _) (sortedAll_at s.heap vs out.toArray)
end
section
variable {X : Cx}
def rSortedPT (K : PySem.W.Frag) : List V → Hp → VK → Prop := fun vs H Q => ∃ (a : Addr) (xs : List V) (k : V → PySem.Str × PySem.Str), vs = [V.ref a] ∧ SqL K H a xs ∧ (∀ x ∈ xs, ∃ t, x = V.ref t ∧ H t = some (.tup [.str (k x).1, .str (k x).2])) ∧
  ∀ ys p, SrtO.Srtd (fun x y => lexT (k x) (k y)) ys → ys.Perm xs → H p = none → Q (.ref p) (upd H p (.lst ys))
theorem cr_sortedPT : CallR X (.builtin "sorted") (rSortedPT X.K) := by
  intro pins s σ H vs us Q I r h
  obtain ⟨a, xs, k, rfl, hs, hx, q⟩ := h
  obtain ⟨its, rv, hl, hz⟩ := I.list hs
  obtain ⟨u, rfl, ru⟩ := vals1 r
  obtain rfl : u = Value.ref a := ru
  obtain ⟨e1, e2⟩ := refs_back rv fun x m => by
    obtain ⟨t, e, _⟩ := hx x m
    exact ⟨t, e⟩
  refine sorted_pt (k := fun u => k (backV u)) hl.isList (by rw [← rv.length]; exact hz) (fun v hv => ?_) fun h' d out h1 h2 kp hd hn => ?_
  · obtain ⟨t, rfl⟩ := e2 v hv
    have hm : V.ref t ∈ xs := by rw [e1]; exact List.mem_map.mpr ⟨_, hv, rfl⟩
    obtain ⟨t', e, ht⟩ := hx _ hm
    cases e
    obtain ⟨_, its2, r2, o, ho, hc, n, hd⟩ := I.hok _ _ ht
    obtain ⟨u1, u2, rfl, ri, rj⟩ := vals2 r2
    obtain ⟨t1, rfl⟩ := ri
    obtain ⟨t2, rfl⟩ := rj
    exact ⟨t, o, t1, t2, n, rfl, ho, hc, hd⟩
  · have h3 : ∀ u ∈ out, ∃ a, u = Value.ref a := fun u hu => e2 u (h2.perm.mem_iff.mp hu)
    obtain ⟨n, hn⟩ := hn
    have hb : (out.map backV).Perm xs := by
      rw [e1]
      exact h2.perm.map backV
    refine ⟨.ref d, upd H d (.lst (out.map backV)), I.laid (t' := s.toks) kp hd ⟨?_, out, n, vals_back h3, hn⟩, rfl, q _ d (SrtO.srtd_map h1) hb (I.hok.fresh hd)⟩
    rw [hb.length_eq]
    exact hz
end
/-- couples that are sorted and have other firsts are files in order -/
theorem ord_sorted {F G : Fl} (nd : (F.map (·.1)).Nodup) (p : G.Perm F) (s : SrtO.Srtd (fun x y => lexT x y) G) : Ord F G := by
  have ng : (G.map (·.1)).Nodup := ((p.map (·.1)).nodup_iff).mpr nd
  refine ⟨(asc_pair.mpr ?_).1, p⟩
  have : ∀ G : Fl, (G.map (·.1)).Nodup → SrtO.Srtd (fun x y => lexT x y) G → (G.map (·.1)).Pairwise fun a b => a.cps.toList < b.cps.toList := by
    intro G
    induction G with
    | nil => intro _ _; exact .nil
    | cons q G ih =>
      intro hn hs
      rw [List.map_cons] at hn ⊢
      obtain ⟨n1, n2⟩ := List.nodup_cons.mp hn
      refine List.pairwise_cons.mpr ⟨fun x hx => ?_, ih n2 (List.pairwise_cons.mp hs).2⟩
      obtain ⟨r, hr, rfl⟩ := List.mem_map.mp hx
      have h1 : lexT r q = false := (List.pairwise_cons.mp hs).1 r hr
      have h2 := not_or.mp (lexT_no.mp h1)
      refine lt_or h2.1 (cps_ne fun e => n1 ?_)
      rw [← e]
      exact List.mem_map_of_mem hr
  exact this G ng s
end DK
/-! sorted, sets of versions, items, dicts of couples, all and any, by data. -/
namespace VL
open PySem PySem.Spec PyProof.Rows L2 RX
section
variable {X : Cx} {e : Expr} {pos : Pos}
/-! sorted of ints, of texts -/
def sortedND : DK
  | [.lst ds], M => ∃ ns : List Int, ds = ns.map Dt.int ∧ ∀ ms : List Int, ms.Perm ns → ms.Pairwise (· ≤ ·) → M (.lst (ms.map Dt.int))
  | _, _ => False
theorem rp_ints_inv {g : Geo} {H : Hp} {vs : List V} {ns : List Int} (h : RpAll g H vs (ns.map Dt.int)) : vs = ns.map V.int := by
  induction ns generalizing vs with
  | nil => cases h; rfl
  | cons n ns ih => cases h with | cons a t => rw [a.int_inv, ih t]; rfl
theorem ints_rp {g : Geo} {H : Hp} (ns : List Int) : RpAll g H (ns.map V.int) (ns.map Dt.int) := by
  induction ns with
  | nil => exact .nil
  | cons n ns ih => exact .cons (.int _) ih
theorem vcallF_sortedN (hc : X.calm = true) : VCallF X (.builtin "sorted") sortedND := by
  intro pins s σ H vs us Q I r ⟨g, ds, M, c, p, q, k⟩
  unfold sortedND at q
  split at q
  · obtain ⟨v, rfl, h⟩ := pd1 p
    obtain ⟨ns, rfl, q⟩ := q
    obtain ⟨a, xs, e1, e2, e3⟩ := h.lst
    have := rp_ints_inv e3
    subst this
    exact cr_sortedI pins s σ H _ us Q I r ⟨a, ns, by rw [e1], .inl (.inl e2), fun ms p pm so np => k _ _ _ (q ms pm so) (.new c np) np (own_new c np (ints_rp ms))⟩
  · exact q.elim
def sortedSD : DK
  | [.lst ds], M => ∃ xs, strsOf ds = some xs ∧ xs.length < 64 ∧ ∀ ys : List PySem.Str, ys.Perm xs → sortedS ys = true → M (.lst (ys.map Dt.str))
  | _, _ => False
theorem vcallF_sortedS (hc : X.calm = true) : VCallF X (.builtin "sorted") sortedSD := by
  intro pins s σ H vs us Q I r ⟨g, ds, M, c, p, q, k⟩
  unfold sortedSD at q
  split at q
  · obtain ⟨v, rfl, h⟩ := pd1 p
    obtain ⟨xs, e, l, q⟩ := q
    have := strsOf_eq e
    subst this
    obtain ⟨a, vs, e1, e2, e3⟩ := h.lst
    have := rp_strs_inv e3
    subst this
    exact cr_sortedS pins s σ H _ us Q I r ⟨a, xs, by rw [e1], .inl (.inl e2), l, fun ys p pm so np => k _ _ _ (q ys pm so) (.new c np) np (own_new c np (strs_rp ys))⟩
  · exact q.elim
/-! couples of texts -/
abbrev cpD := _root_.DK.cpD
theorem rp_cps {g : Geo} {H : Hp} {vs : List V} {F : List (PySem.Str × PySem.Str)} (h : RpAll g H vs (F.map cpD)) : ∃ as : List Addr, vs = as.map V.ref ∧ Paired (fun a p => ¬ g.O a ∧ H a = some (.tup [.str p.1, .str p.2])) as F := by
  induction F generalizing vs with
  | nil => cases h; exact ⟨[], rfl, .nil⟩
  | cons p F ih =>
    cases h with
    | cons a t =>
      obtain ⟨as, e, r⟩ := ih t
      obtain ⟨b, xs, e1, na, hb, rb⟩ := Rp.tup_inv (ds := [.str p.1, .str p.2]) a
      cases rb with
      | cons r1 r2 => cases r2 with
        | cons r2 r3 => cases r3; subst e1; subst e; exact ⟨b :: as, rfl, .cons ⟨na, by rw [r1.str_inv, r2.str_inv] at hb; exact hb⟩ r⟩
theorem cps_rp {g : Geo} {H : Hp} {as : List Addr} {F : List (PySem.Str × PySem.Str)} (h : Paired (fun a p => ¬ g.O a ∧ H a = some (.tup [.str p.1, .str p.2])) as F) : RpAll g H (as.map V.ref) (F.map cpD) := by
  induction h with
  | nil => exact .nil
  | cons a _ ih => exact .cons (.tup a.1 a.2 (.cons (.str _) (.cons (.str _) .nil))) ih
theorem pd_memL {α β : Type} {F : α → β → Prop} {as : List α} {L : List β} (h : Paired F as L) {t : α} (m : t ∈ as) : ∃ p, F t p := by
  induction h with
  | nil => cases m
  | cons a _ ih =>
    rcases List.mem_cons.mp m with e | m
    · subst e; exact ⟨_, a⟩
    · exact ih m
theorem kf_mapL {kf : V → PySem.Str × PySem.Str} {H : Hp} {g : Geo} (kfa : ∀ a p, H a = some (.tup [.str (p : PySem.Str × PySem.Str).1, .str p.2]) → kf (.ref a) = p) {as : List Addr} {F : List (PySem.Str × PySem.Str)} (pr : Paired (fun a p => ¬ g.O a ∧ H a = some (.tup [.str p.1, .str p.2])) as F) : (as.map V.ref).map kf = F := by
  induction pr with
  | nil => rfl
  | cons a _ ih => rw [List.map_cons, List.map_cons, ih, kfa _ _ a.2]
theorem kf_rp {kf : V → PySem.Str × PySem.Str} {H : Hp} {g : Geo} : ∀ {ys : List V}, (∀ x ∈ ys, ∃ t, x = V.ref t ∧ ¬ g.O t ∧ H t = some (.tup [.str (kf x).1, .str (kf x).2])) → RpAll g H ys ((ys.map kf).map cpD)
  | [], _ => .nil
  | y :: ys, my => by
    obtain ⟨t, e, nt, ht⟩ := my y List.mem_cons_self
    refine .cons ?_ (kf_rp fun x hx => my x (List.mem_cons_of_mem _ hx))
    show Rp g H y (cpD (kf y))
    generalize kf y = kp at ht
    subst e
    exact .tup nt ht (.cons (.str _) (.cons (.str _) .nil))
/-- sorted(couples of texts) -/
def sortedPD : DK
  | [.lst ds], M => ∃ F : List (PySem.Str × PySem.Str), ds = F.map cpD ∧ ∀ G, SrtO.Srtd (fun x y => _root_.DK.lexT x y) G → G.Perm F → M (.lst (G.map cpD))
  | _, _ => False
theorem vcallF_sortedP (hc : X.calm = true) : VCallF X (.builtin "sorted") sortedPD := by
  intro pins s σ H vs us Q I r ⟨g, ds, M, c, p, q, k⟩
  unfold sortedPD at q
  split at q
  · obtain ⟨v, rfl, h⟩ := pd1 p
    obtain ⟨F, rfl, q⟩ := q
    obtain ⟨a, xs, e1, e2, e3⟩ := h.lst
    obtain ⟨as, ex, pr⟩ := rp_cps e3
    subst ex
    let kf : V → PySem.Str × PySem.Str := fun v => match v with
      | .ref t => match H t with
        | some (.tup [.str x, .str y]) => (x, y)
        | _ => ("", "")
      | _ => ("", "")
    have kfa : ∀ a p, H a = some (.tup [.str p.1, .str p.2]) → kf (.ref a) = p := fun a p e => by show (match H a with | some (.tup [.str x, .str y]) => (x, y) | _ => _) = p; rw [e]
    have mem : ∀ x ∈ as.map V.ref, ∃ t, x = V.ref t ∧ ¬ g.O t ∧ H t = some (.tup [.str (kf x).1, .str (kf x).2]) := fun x hx => by
      obtain ⟨t, ht, rfl⟩ := List.mem_map.mp hx
      obtain ⟨p, np, hp⟩ := pd_memL pr ht
      exact ⟨t, rfl, np, by rw [kfa t p hp]; exact hp⟩
    refine _root_.DK.cr_sortedPT pins s σ H _ us Q I r ⟨a, _, kf, by rw [e1], .inl (.inl e2), fun x hx => ?_, fun ys p so pm np => ?_⟩
    · obtain ⟨t, e, _, h⟩ := mem x hx; exact ⟨t, e, h⟩
    · have mp : (as.map V.ref).map kf = F := kf_mapL kfa pr
      have s1 : SrtO.Srtd (fun x y => _root_.DK.lexT x y) (ys.map kf) := SrtO.srtd_map so
      exact k _ _ _ (q (ys.map kf) s1 (by rw [← mp]; exact pm.map kf)) (.new c np) np (own_new c np (kf_rp fun x hx => mem x (pm.mem_iff.mp hx)))
  · exact q.elim
/-! dict(a list of couples), keys apart -/
def pairsD : DK
  | [.lst ds], M => ∃ L : List (PySem.Str × Dt), ds = L.map (fun p => .tup [.str p.1, p.2]) ∧ (L.map (·.1)).Nodup ∧ M (.dic (L.map (·.1)) (L.map (·.2)))
  | [.fup ds], M => ∃ L : List (PySem.Str × Dt), ds = L.map (fun p => .tup [.str p.1, p.2]) ∧ (L.map (·.1)).Nodup ∧ M (.dic (L.map (·.1)) (L.map (·.2)))
  | _, _ => False
theorem rp_pairs {g : Geo} {H : Hp} {vs : List V} {L : List (PySem.Str × Dt)} (h : RpAll g H vs (L.map fun p => .tup [.str p.1, p.2])) : ∃ (as : List Addr) (kv : List (PySem.Str × V)), vs = as.map V.ref ∧ Paired (fun a p => H a = some (.tup [.str p.1, p.2])) as kv ∧ kv.map (·.1) = L.map (·.1) ∧ RpAll g H (kv.map (·.2)) (L.map (·.2)) := by
  induction L generalizing vs with
  | nil => cases h; exact ⟨[], [], rfl, .nil, rfl, .nil⟩
  | cons p L ih =>
    cases h with
    | cons a t =>
      obtain ⟨as, kv, e, r, e2, r2⟩ := ih t
      obtain ⟨b, xs, e1, na, hb, rb⟩ := Rp.tup_inv (ds := [.str p.1, p.2]) a
      cases rb with
      | cons q1 q2 => cases q2 with
        | @cons v _ _ _ q2 q3 => cases q3; subst e1; subst e; exact ⟨b :: as, (p.1, v) :: kv, rfl, .cons (by rw [q1.str_inv] at hb; exact hb) r, by rw [List.map_cons, List.map_cons, e2], .cons q2 r2⟩
theorem pd_kk {H : Hp} {as : List Addr} {kv : List (PySem.Str × V)} (pr : Paired (fun a p => H a = some (.tup [.str p.1, p.2])) as kv) : Paired (fun (a : Addr) (p : L2.Key × V) => H a = some (.tup [kV p.1, p.2])) as (kk kv) := by
  induction pr with
  | nil => exact .nil
  | cons a _ ih => exact .cons a ih
/-- the couples of a tuple whose object is known -/
theorem pairs_ofT {pins : List (Addr × Obj)} {σ : L2.St} {H : Hp} {s : Shared} (I : Inv X pins σ H s) : ∀ {ps : List Addr} {kvs : List (L2.Key × V)}, Paired (fun p kv => SqT X.K H p [kV kv.1, kv.2]) ps kvs →
    ∃ (prs : List (L2.Key × Value)) (vs : List (Value × Value)), KV kvs prs ∧ prs.length = ps.length ∧ vs.length = ps.length ∧ ∀ (j : Nat) (k v : Value), vs[j]? = some (k, v) → ∃ (b : Addr) (key : L2.Key), ps[j]? = some b ∧ IsTup s.heap b #[k, v] ∧ prs[j]? = some (key, v) ∧ keyIs key k = true
  | _, _, .nil => ⟨[], [], .nil, rfl, rfl, fun j k v e => by simp at e⟩
  | _, _, .cons (a := p) (b := kv) h t => by
    obtain ⟨prs, vs, r, hl, hl2, hp⟩ := pairs_ofT I t
    obtain ⟨its, rv, ht, _⟩ := I.tuple h
    obtain ⟨u, y, ei, ru, ry⟩ := vals2 rv
    subst ei
    refine ⟨(kv.1, y) :: prs, (u, y) :: vs, .cons ⟨rfl, ry⟩ r, by rw [List.length_cons, List.length_cons, hl], by rw [List.length_cons, List.length_cons, hl2], fun j k v e => ?_⟩
    cases j with
    | zero =>
      have e' : (u, y) = (k, v) := Option.some.inj e
      cases e'
      exact ⟨p, kv.1, rfl, ht, rfl, kV_is (P := X.prog) (w := X.w) ru⟩
    | succ j =>
      obtain ⟨b, key, e1, e2, e3, e4⟩ := hp j k v (by simpa using e)
      exact ⟨b, key, by simpa using e1, e2, by simpa using e3, e4⟩
theorem call_dictPT (hcalm : X.calm = true) : CallR X (.type "dict") (fun xs H Q => ∃ (a : Addr) (o : Obj) (ps : List Addr) (kvs : List (L2.Key × V)), xs = [.ref a] ∧ H a = some (.frz o (.tup (ps.map V.ref))) ∧ o.dict = none ∧ Paired (fun p kv => SqT X.K H p [kV kv.1, kv.2]) ps kvs ∧
    ∀ p, H p = none → Q (.ref p) (upd H p (.dK (mergeK [] kvs)))) := by
  intro pins s σ H xs us Q I r q
  obtain ⟨a, o, ps, kvs, ex, hq, hd, hp, q⟩ := q
  subst ex
  obtain ⟨u, eu, rx⟩ := vals1 r
  subst eu
  cases rx
  obtain ⟨ho, hz, its, rv, o', ho', hc, n, hdat⟩ := (show ObjOk X.prog X.w H s.heap a (.frz o (.tup (ps.map V.ref))) from I.hok a _ hq)
  rw [ho] at ho'
  cases ho'
  have ei := refs_at rv
  subst ei
  rw [List.length_map] at hz
  obtain ⟨prs, vs, rel, hl, hl2, hpr⟩ := pairs_ofT I hp
  have kvl : prs.length = kvs.length := rel.length.symm
  refine PySem.call_dict_pairs (knd := mixKind X.prog X.w) (kvs := prs) (PairArg.tuple a (ps.map Value.ref).toArray (fun j => ps.getD j 0) vs) (I.ok.hd hcalm) ⟨⟨o, n, ho, hc, hd, hdat⟩, by simp [hl2], fun j k v e => ?_⟩ ⟨by rw [hl, hl2], fun i key v e => ?_⟩ (by rw [hl2]; exact hz) fun h' tk hd' k => ?_
  · obtain ⟨b, key, e1, e2, e3, e4⟩ := hpr j k v e
    refine ⟨by simp [e1, List.getD], ?_⟩
    have eb : ps.getD j 0 = b := by rw [List.getD, e1]; rfl
    show PairAt s.heap (ps.getD j 0) k v
    rw [eb]
    exact .inl e2
  · obtain ⟨b, key', e1, e2, e3, e4⟩ := hpr i key v e
    exact ⟨key', e3, e4⟩
  · have hm : (s.heap.objs.size == sysModules) = false := beq_eq_false_iff_ne.mpr (Nat.ne_of_gt I.big)
    have hlen : (mergeK [] kvs).length ≤ sizeLine := by
      refine Nat.le_trans (length_mergeK kvs []) ?_
      rw [List.length_nil, Nat.zero_add, rel.length, hl]
      exact hz
    exact ⟨.ref s.heap.objs.size, upd H s.heap.objs.size (.dK (mergeK [] kvs)), I.laid (t' := tk) (fun b o e => k b o (fun h => nomatch h) e) (Nat.le_refl _) (show ObjOk X.prog X.w _ _ _ (.dK (mergeK [] kvs)) from ⟨hlen, hm, merged [] prs, KV.merge rel .nil, hd'⟩), rfl, q _ (I.hok.fresh (Nat.le_refl _))⟩
/-- tuple(l): its object is known -/
theorem call_tuple_fz : CallR X (.type "tuple") (fun xs H Q => ∃ p ys, xs = [.ref p] ∧ SqL X.K H p ys ∧ ∀ l o, H l = none → o.dict = none → Q (.ref l) (upd H l (.frz o (.tup ys)))) := by
  intro pins s σ H xs us Q I r h
  obtain ⟨p, ys, rfl, hq, q⟩ := h
  obtain ⟨u, rfl, rx⟩ := vals1 r
  cases rx
  obtain ⟨its, r', pl, hz⟩ := I.list hq
  have hlen := r'.length
  refine call_tuple_list pl.isList (fun h' kp => ?_) (by simp only [List.size_toArray] <;> omega)
  have I1 : Inv X pins σ H { s with heap := h' } := I.kept (t' := s.toks) kp
  have hat : (h'.push { cls := .type "tuple", data := .seq its.toArray }).get? h'.objs.size = some { cls := .type "tuple", data := .seq its.toArray } := Heap.get?_push_size _ rfl
  have I2 : Inv X pins σ (upd H h'.objs.size (.frz { cls := .type "tuple", data := .seq its.toArray } (.tup ys))) { s with heap := h'.push { cls := .type "tuple", data := .seq its.toArray } } :=
    I1.laid (t' := s.toks) (fun b o e => Heap.get?_push_of_some _ e) (Nat.le_refl _) (show ObjOk X.prog X.w _ _ _ (.frz { cls := .type "tuple", data := .seq its.toArray } (.tup ys)) from ⟨hat, hz, its, r', IsTup.new _ _⟩)
  exact ⟨.ref h'.objs.size, _, I2, rfl, q _ _ (I1.hok.fresh (Nat.le_refl _)) rfl⟩
def fupleD : DK
  | [.lst xs], M => M (.fup xs)
  | _, _ => False
theorem vcall_fuple : VCall X (.type "tuple") fupleD := by
  intro pins s σ H vs us Q I r ⟨g, ds, M, c, p, q, k⟩
  unfold fupleD at q
  split at q
  · obtain ⟨v, rfl, h⟩ := pd1 p
    obtain ⟨a, xs, e1, e2, e3⟩ := h.lst
    exact call_tuple_fz pins s σ H _ us Q I r ⟨a, xs, by rw [e1], .inl (.inl e2), fun p o np hd => k _ _ _ q (.new c np) (.fup (new_rp c np) upd_same hd (e3.nxt c (.new c np)))⟩
  · exact q.elim
theorem vcallF_pairs (hc : X.calm = true) : VCallF X (.type "dict") pairsD := by
  intro pins s σ H vs us Q I r ⟨g, ds, M, c, p, q, k⟩
  unfold pairsD at q
  split at q
  · obtain ⟨v, rfl, h⟩ := pd1 p
    obtain ⟨L, rfl, nd, q⟩ := q
    obtain ⟨a, xs, e1, e2, e3⟩ := h.lst
    obtain ⟨as, kv, ex, pr, ek, rr⟩ := rp_pairs e3
    subst ex
    refine call_dictP hc pins s σ H _ us Q I r ⟨a, as, kk kv, by rw [e1], .inl (.inl e2), ?_, fun p np => ?_⟩
    · exact pd_imp (fun a p h => .inl (.inl h)) (pd_kk pr)
    · have nk : (kv.map (·.1)).Nodup := by rw [ek]; exact nd
      have : mergeK [] (kk kv) = kk kv := by
        rw [_root_.DK.merge_nd _ _ (by
          rw [List.nil_append]
          unfold kk
          rw [List.map_map]
          have : (kv.map ((fun x : L2.Key × V => x.1) ∘ fun p => (Sum.inr p.1, p.2))) = (kv.map (·.1)).map Sum.inr := by rw [List.map_map]; rfl
          rw [this]
          exact List.Pairwise.map _ (fun a b h e => h (Sum.inr.inj e)) nk)]
        rfl
      rw [this]
      exact k _ _ _ q (.new c np) np ⟨kv, upd_same, nk, ek, rr.and c np⟩
  · obtain ⟨v, rfl, h⟩ := pd1 p
    obtain ⟨L, rfl, nd, q⟩ := q
    obtain ⟨a, o, xs, e1, e2, ed, e3⟩ := h.fup
    obtain ⟨as, kv, ex, pr, ek, rr⟩ := rp_pairs e3
    subst ex
    refine call_dictPT hc pins s σ H _ us Q I r ⟨a, o, as, kk kv, by rw [e1], e2, ed, ?_, fun p np => ?_⟩
    · exact pd_imp (fun a p h => .inl (.inl h)) (pd_kk pr)
    · have nk : (kv.map (·.1)).Nodup := by rw [ek]; exact nd
      have : mergeK [] (kk kv) = kk kv := by
        rw [_root_.DK.merge_nd _ _ (by
          rw [List.nil_append]
          unfold kk
          rw [List.map_map]
          have : (kv.map ((fun x : L2.Key × V => x.1) ∘ fun p => (Sum.inr p.1, p.2))) = (kv.map (·.1)).map Sum.inr := by rw [List.map_map]; rfl
          rw [this]
          exact List.Pairwise.map _ (fun a b h e => h (Sum.inr.inj e)) nk)]
        rfl
      rw [this]
      exact k _ _ _ q (.new c np) np ⟨kv, upd_same, nk, ek, rr.and c np⟩
  · exact q.elim
/-! all, any of a list of truths -/
def blsOf : List Dt → Option (List Bool)
  | [] => some []
  | .bl x :: ds => (blsOf ds).map (x :: ·)
  | _ => none
theorem blsOf_map (xs : List Bool) : blsOf (xs.map Dt.bl) = some xs := by
  induction xs with
  | nil => rfl
  | cons x xs ih => simp [blsOf, ih]
def allD' : DK
  | [.lst ds], M => ∃ bs, blsOf ds = some bs ∧ M (.bl (bs.all id))
  | _, _ => False
def anyD' : DK
  | [.lst ds], M => ∃ bs, blsOf ds = some bs ∧ M (.bl (bs.any id))
  | _, _ => False
theorem blsOf_eq {ds : List Dt} {xs : List Bool} (h : blsOf ds = some xs) : ds = xs.map Dt.bl := by
  induction ds generalizing xs with
  | nil => simp [blsOf] at h; subst h; rfl
  | cons d ds ih =>
    cases d with
    | bl x =>
      simp only [blsOf, Option.map_eq_some_iff] at h
      obtain ⟨ys, e1, e2⟩ := h
      subst e2
      rw [ih e1]; rfl
    | _ => simp [blsOf] at h
theorem rp_bls_inv {g : Geo} {H : Hp} {vs : List V} {xs : List Bool} (h : RpAll g H vs (xs.map Dt.bl)) : vs = xs.map V.bl := by
  induction xs generalizing vs with
  | nil => cases h; rfl
  | cons x xs ih => cases h with | cons a t => rw [a.bl_inv, ih t]; rfl
theorem vcall_all (hc : X.calm = true) : VCall X (.builtin "all") allD' := by
  intro pins s σ H vs us Q I r ⟨g, ds, M, c, p, q, k⟩
  unfold allD' at q
  split at q
  · obtain ⟨v, rfl, h⟩ := pd1 p
    obtain ⟨bs, e, m⟩ := q
    have := blsOf_eq e
    subst this
    obtain ⟨a, vs, e1, e2, e3⟩ := h.lst
    have := rp_bls_inv e3
    subst this
    exact cr_all hc pins s σ H _ us Q I r ⟨a, bs, by rw [e1], .inl (.inl e2), k _ _ _ m (.refl c) (.bl _)⟩
  · exact q.elim
theorem vcall_any (hc : X.calm = true) : VCall X (.builtin "any") anyD' := by
  intro pins s σ H vs us Q I r ⟨g, ds, M, c, p, q, k⟩
  unfold anyD' at q
  split at q
  · obtain ⟨v, rfl, h⟩ := pd1 p
    obtain ⟨bs, e, m⟩ := q
    have := blsOf_eq e
    subst this
    obtain ⟨a, vs, e1, e2, e3⟩ := h.lst
    have := rp_bls_inv e3
    subst this
    exact cr_any hc pins s σ H _ us Q I r ⟨a, bs, by rw [e1], .inl (.inl e2), k _ _ _ m (.refl c) (.bl _)⟩
  · exact q.elim
end
end VL
/-! sorted(set(versions)), list(d.items()), by data. -/
namespace VL
open PySem PySem.Spec PyProof.Rows L2 RX
section
variable {X : Cx} {o e : Expr} {apos cpos pos : Pos}
theorem pe_items0 {to : TE} (ho : PE X o to) (hbase : attributeBase o "items" X.env (eval o X.env) = eval o X.env := by rfl) (hline : (apos.endLine == cpos.line) = true := by rfl) :
    PE X (.Call (.Attribute o "items" apos) [] [] cpos) (fun σ H Q => to σ H fun x H1 => ∃ a kvs, x = .ref a ∧ Rd H1 a (.dK kvs) ∧ ∀ p, H1 p = none → Q (.ref p) (upd H1 p (L2.DX.itemsO p a))) := by
  refine ⟨fun pins s σ H Q I h => ?_⟩
  refine wpAny_Call_method0_late hbase hline (thn (ho.run pins s σ H _ I h) fun v s1 ⟨x, H1, I1, r1, a, kvs, e, ha, q1⟩ => ?_)
  subst e
  obtain rfl : v = Value.ref a := r1
  obtain ⟨h1, h2, _⟩ := isD_at I1 (.inl ⟨kvs, ha⟩)
  exact ⟨"dict", "dict.items", PySem.F.plainAttrs_dict, PySem.F.slot_dict_items, PySem.F.type_dict_items, h1, h2, Calls.callWith_builtin rfl (PySem.evalArgs_none (TX.mt_items pins s1 σ H1 (.ref a) [] (.ref a) [] Q I1 rfl .nil ⟨a, kvs, rfl, rfl, ha, q1⟩))⟩
def itemsOf (ks : List PySem.Str) (ds : List Dt) : List Dt := List.zipWith (fun k d => .tup [.str k, d]) ks ds
def vItems (t : DE) : DE := fun ρ M => t ρ fun d => match d with
  | .dic ks ds => M (.lst (itemsOf ks ds))
  | _ => False
theorem items_rp {g : Geo} {H H' : Hp} {p : Addr} : ∀ {as : List Addr} {kv : List (PySem.Str × V)} {ds : List Dt}, Paired (fun (b : Addr) (kv : L2.Key × V) => H b = none ∧ H' b = some (.tup [kV kv.1, kv.2])) as (kk kv) → (∀ b, g.O b → ∃ o, H b = some o) → H' p = none ∨ (∀ b ∈ as, b ≠ p) → RpAll (g.and p) H' (kv.map (·.2)) ds →
    RpAll (g.and p) H' (as.map V.ref) (itemsOf (kv.map (·.1)) ds)
  | [], [], _, _, _, _, r => by cases r; exact .nil
  | a :: as, q :: kv, _, .cons h t, al, np, r => by
    cases r with
    | cons r1 r2 =>
      refine .cons (.tup (fun z => ?_) h.2 (.cons (.str _) (.cons r1 .nil))) (items_rp t al (np.imp id fun n b hb => n b (List.mem_cons_of_mem _ hb)) r2)
      rcases (show g.O a ∨ a = p from z) with z | z
      · obtain ⟨o, e⟩ := al a z
        rw [h.1] at e; cases e
      · rcases np with np | np
        · rw [← z, h.2] at np; cases np
        · exact np a List.mem_cons_self z
/-- list(d.items()) -/
theorem vf_items {x : PySem.Str} {p pos : Pos} {t : DE} (hc : X.calm = true) (hg : Gl X x) (hm : X.mg x = none) (hv : bootBuiltins x = some (.type "list")) (ho : VC X o t) (hn : x ≠ "__name__" := by decide) (hdb : (x == ("__debug__" : PySem.Str)) = false := by decide)
    (hbase : attributeBase o "items" X.env (eval o X.env) = eval o X.env := by rfl) (hline : (apos.endLine == cpos.line) = true := by rfl)
    (he : starEach [.Call (.Attribute o "items" apos) [] [] cpos] X.env = (false, eval (.Call (.Attribute o "items" apos) [] [] cpos) X.env) :: starEach [] X.env := by rfl) (hpl : (backTo pos (starEach [] X.env)).any (·.1) = false := by rfl) :
    VF X (.Call (.Name x p) [.Call (.Attribute o "items" apos) [] [] cpos] [] pos) (vItems t) :=
  pe_imp (pe_callTy (TX.cr_listItems hc) hg hm hv (pa_cons (pe_items0 ho hbase hline) pa_nil he) hn hdb he hpl) fun σ H Q ⟨f, O, ρ, M, r, q, k⟩ => ⟨f, O, ρ, _, r, q, fun d v H1 m n p => by
    cases d with
    | dic ks ds =>
      obtain ⟨a, kv, e1, ha, nd, ek, rr⟩ := p.dic
      subst ek
      have r1 := r.nxt n
      refine ⟨a, kk kv, e1, ha, fun pv npv => ?_⟩
      have r2 := r1.nxt (.new (o := L2.DX.itemsO pv a) r1.ctx npv)
      have ha2 : Rd (upd H1 pv (L2.DX.itemsO pv a)) a (.dK (kk kv)) := rd_map (fun o h => new_ne h npv) ha
      refine ⟨pv, a, kk kv, rfl, upd_same, ha2, fun H' l as sm nl hl pr => ?_⟩
      have n2 : Nxt (gO f O) (upd H1 pv (L2.DX.itemsO pv a)) H' := .same r2.ctx sm
      have nl1 : H1 l = none := by
        cases e : H1 l with
        | none => rfl
        | some o => rw [new_ne e npv] at nl; cases nl
      have n12 : Nxt (gO f O) H1 H' := (Nxt.new r1.ctx npv).trans n2
      refine k _ l H' m (n.trans n12) (none_before n nl1) ⟨as.map V.ref, hl, ?_⟩
      refine items_rp pr (fun b hb => r2.ctx.al b hb) (.inr fun b hb z => ?_) ?_
      · subst z
        obtain ⟨kvp, hk⟩ := pd_memL pr hb
        rw [hl] at hk
        exact absurd hk.2 (fun z => nomatch z)
      · exact RpAll.mono (fun y o no e => ⟨n12.c.app y o (fun z => no (z ▸ r1.ctx.ob)) e, fun z => Or.elim (show O y ∨ y = l from z) no fun z => by rw [z, nl1] at e; cases e⟩) _ _ rr
    | _ => exact m.elim⟩
/-- sorted(set(versions)) -/
def vSortsV (t : DE) : DE := fun ρ M => t ρ fun d => match d with
  | .lst ds => ∃ vs : List (List Int), ds = vs.map _root_.DK.verD ∧ (∀ v ∈ vs, _root_.DK.Vs v) ∧ vs ≠ [] ∧ vs.length < 64 ∧ ∀ ws : List (List Int), (∀ w ∈ ws, w ∈ vs) → ws ≠ [] → ws.length ≤ vs.length → ws.Nodup → M (.lst (ws.map _root_.DK.verD))
  | _ => False
theorem rp_vers {g : Geo} {H : Hp} : ∀ {xs : List V} {vs : List (List Int)}, RpAll g H xs (vs.map _root_.DK.verD) → ∃ L : List (Addr × List Int), xs = L.map (fun p => V.ref p.1) ∧ L.map (·.2) = vs ∧ ∀ p ∈ L, ¬ g.O p.1 ∧ H p.1 = some (.tup (p.2.map V.int))
  | _, [], h => by cases h; exact ⟨[], rfl, rfl, fun p hp => by cases hp⟩
  | _, v :: vs, h => by
    cases h with
    | cons a t =>
      obtain ⟨L, e1, e2, h⟩ := rp_vers t
      obtain ⟨b, xs, e, nb, hb, rb⟩ := Rp.tup_inv (ds := v.map Dt.int) a
      have := rp_ints_inv rb
      subst this
      subst e; subst e1; subst e2
      refine ⟨(b, v) :: L, rfl, rfl, fun p hp => ?_⟩
      rcases List.mem_cons.mp hp with e | hp
      · subst e; exact ⟨nb, hb⟩
      · exact h p hp
theorem vers_rp {g : Geo} {H : Hp} : ∀ {L : List (Addr × List Int)}, (∀ p ∈ L, ¬ g.O p.1 ∧ H p.1 = some (.tup (p.2.map V.int))) → RpAll g H (L.map fun p => V.ref p.1) ((L.map (·.2)).map _root_.DK.verD)
  | [], _ => .nil
  | p :: L, h => .cons (.tup (h p List.mem_cons_self).1 (h p List.mem_cons_self).2 (ints_rp _)) (vers_rp fun q hq => h q (List.mem_cons_of_mem _ hq))
theorem vf_sortsV {t : DE} {p1 p2 p3 p4 : Pos} (hc : X.calm = true) (hu : X.A.units + 64 < cLine) (hg1 : Gl X "sorted") (hg2 : Gl X "set") (m1 : X.mg "sorted" = none) (m2 : X.mg "set" = none) (he : VC X e t)
    (h1 : starEach (e :: []) X.env = (false, eval e X.env) :: starEach [] X.env := by rfl) : VF X (.Call (.Name "sorted" p1) [.Call (.Name "set" p2) [e] [] p3] [] p4) (vSortsV t) := by
  constructor
  intro pins s σ H Q I h
  have R := pe_callB (X := X) (pos := p4) (p := p1) (cr_sortedT hc) hg1 m1 (by decide +kernel) (pa_cons (pe_callTy (pos := p3) (p := p2) (cr_setOfT hc hu) hg2 m2 (by decide +kernel) (pa_cons he pa_nil h1) (by decide) (by decide) h1 (by rfl)) pa_nil) (by decide) (by decide) (by rfl) (by rfl)
  refine R.run pins s σ H Q I ?_
  obtain ⟨f, O, ρ, M, r, q, k⟩ := h
  refine ⟨f, O, ρ, _, r, q, fun d v H1 m n p => ?_⟩
  cases d with
  | lst ds =>
    obtain ⟨vs, rfl, hV, ne, few, m⟩ := m
    obtain ⟨l, xs, e1, hl, ra⟩ := p.lst
    obtain ⟨L, rfl, rfl, hL⟩ := rp_vers ra
    subst e1
    have r1 := r.nxt n
    refine ⟨l, L, rfl, .inl (.inl hl), fun q hq => .inl (.inl (hL q hq).2), by simpa using few, fun a S na hS hLS => ?_⟩
    have n2 : Nxt (gO f O) H1 (upd H1 a (SetTO X.prog X.w a S)) := .new r1.ctx na
    have at2 : ∀ q ∈ S, ¬ O q.1 ∧ upd H1 a (SetTO X.prog X.w a S) q.1 = some (.tup (q.2.map V.int)) := fun q hq => ⟨(hL q (hS q hq)).1, new_ne (hL q (hS q hq)).2 na⟩
    refine ⟨a, S, 3, 1000000, rfl, upd_same, fun q hq => .inl (.inl (at2 q hq).2), by decide, fun q hq => ?_, fun N p perm nd lt _ np => ?_⟩
    · have hv := hV q.2 (List.mem_map_of_mem (hS q hq))
      exact ⟨hv.1, fun m hm => hv.2 m hm⟩
    · have hN : ∀ q ∈ N, q ∈ S := fun q hq => perm.mem_iff.mp hq
      have r2 := r1.nxt n2
      have mem : ∀ w ∈ N.map (·.2), w ∈ L.map (·.2) := fun w hw => by
        obtain ⟨q, hq, rfl⟩ := List.mem_map.mp hw
        exact List.mem_map_of_mem (hS q (hN q hq))
      refine k _ p _ (m (N.map (·.2)) mem (fun e => ?_) (_root_.DK.nodup_len nd mem) nd) ((n.trans n2).trans (.new r2.ctx np)) (none_before n (none_before n2 np)) (own_new (g := gO f O) r2.ctx np (vers_rp fun q hq => at2 q (hN q hq)))
      cases N with
      | nil =>
        have : S = [] := List.perm_nil.mp perm.symm |> fun z => by simpa using z
        subst this
        cases L with
        | nil => exact ne rfl
        | cons r L =>
          have := hLS r List.mem_cons_self
          simp at this
      | cons => cases e
  | _ => exact m.elim
end
theorem hu1 {k : Nat} {A : Around} (r : Room k A) : A.units + 1 < cLine := by have := r.un; omega
theorem hu64 {k : Nat} {A : Around} (r : Room k A) : A.units + 64 < cLine := by have := r.un; omega
theorem hu65 {k : Nat} {A : Around} (r : Room k A) : A.units + 65 < cLine := by have := r.un; omega
end VL
namespace VL
open PySem PySem.Spec PyProof.Rows L2 RX
section
variable {X : Cx} {e : Expr}
def flatD : Dt → Bool
  | .non => true | .bl _ => true | .int _ => true | .str _ => true | _ => false
theorem Rp.flat {g g' : Geo} {H : Hp} {v : V} {d : Dt} (h : Rp g H v d) (f : flatD d = true) : Rp g' H v d := by
  cases h <;> first | exact .non | exact .bl _ | exact .int _ | exact .str _ | cases f
/-- a slot's own thing looked at meanwhile, the outcome plain -/
def vTmp (i : Nat) (t : DE) : DE := fun ρ M => match ρ[i]? with
  | some (some (.own x)) => t (ρ.set i (some (.d x))) fun d => flatD d = true ∧ M d
  | some (some (.d _)) => t ρ M
  | _ => False
theorem set_back {ρ : Ev} {i : Nat} {w : W} (e : ρ[i]? = some (some w)) : True := trivial
theorem ve_tmp (i : Nat) {t : DE} (h : VE X e t) : VE X e (vTmp i t) := pe_imp h fun σ H Q ⟨f, O, ρ, M, r, q, k⟩ => by
  unfold vTmp at q
  split at q
  · next x ei =>
    obtain ⟨v, ev, a, e1, oa, fa, oc⟩ := r.sl _ _ ei
    subst e1
    obtain ⟨r', _⟩ := r.frz ei ev
    exact ⟨f, _, _, _, r', q, fun d v H' m n p => k d v H' m.2 ⟨n.c, n.bag⟩ (p.flat m.1)⟩
  · exact ⟨f, O, ρ, M, r, q, k⟩
  · exact q.elim
end
/-- a promise that stands on the older layer, by data -/
theorem ok_old {P : Program} {w : World} {K : PySem.W.Frag} {mg : PySem.Str → Option Value} {base : Heap} {k : Nat} {f : Addr} {fd : FuncData} {ps : List PySem.Str} {sp : Sp} {fr : Bool} {dsp : DSp} (F : FnOk P w K mg base CX0 k f fd ps sp)
    (h : ∀ vs H Q E, vsp fr dsp vs H Q E → sp vs H Q E) : Ok0 P w K mg base k f fd ps (vsp fr dsp) :=
  ⟨fun vs H Q E q => F.len vs H Q E (h _ _ _ _ q), fun A outer s H args us vs Q E _ hr e0 hb r q => F.run A outer s H args us vs Q E hr e0 hb r (h _ _ _ _ q)⟩
end VL
/-! Draws, numbers behind paths, versions: what they tell, by data. -/
namespace VL
open PySem PySem.Spec PyProof.Rows L2 TL RX
open _root_.DK (Fl numW numsF behind begins allD good num val Fg allIn Vs verD FsOk)
theorem slz : sizeLine = 16777216 := sizeLine_eq
/-! ### _law_take, _law_one -/
abbrev P__law_take : List PySem.Str := ["bag", "many"]
def sp__law_take : DSp := fun as M => ∃ many : Int, as = [.bag, .d (.int many)] ∧ 0 < many ∧ many < 1073741824 ∧ ∀ v : Int, 0 ≤ v → v < many → M (.int v)
theorem len__law_take {as : List Ar} {M : Dt → Prop} (h : sp__law_take as M) : as.length = P__law_take.length := by obtain ⟨m, rfl, _⟩ := h; rfl
abbrev N__law_one : List PySem.Str := ["bag", "things"]
abbrev P__law_one : List PySem.Str := ["bag", "things"]
def T__law_one : DS :=
  (dRet (vOp ixD (vVarC 1) (vDef sp__law_take (vaB 0 (vaD (vCall lenD (vlCons (vVarC 1) vlNil)) vaNil)))))

def sp__law_one : DSp := fun as M => ∃ ds, as = [.bag, .d (.lst ds)] ∧ ds ≠ [] ∧ ds.length ≤ 1000 ∧ ∀ d ∈ ds, M d
theorem len__law_one {as : List Ar} {M : Dt → Prop} (h : sp__law_one as M) : as.length = P__law_one.length := by obtain ⟨m, rfl, _⟩ := h; rfl
theorem atI_mem {α : Type} {ds : List α} {v : Int} (h0 : 0 ≤ v) (h1 : v < ds.length) : ∃ d ∈ ds, atI ds v = some d := by
  have hv : v.toNat < ds.length := by omega
  have z := atI_nat (j := v.toNat) (List.getElem?_eq_getElem hv)
  rw [show ((v.toNat : Nat) : Int) = v by omega] at z
  exact ⟨_, List.getElem_mem hv, z⟩
theorem t__law_one {as : List Ar} {M : Dt → Prop} (h : sp__law_one as M) : T__law_one { nx := fun _ => M .non, rt := M } (stEv N__law_one as) := by
  obtain ⟨ds, rfl, ne, few, q⟩ := h
  have pos : 0 < ds.length := List.length_pos_iff.mpr ne
  refine ⟨rfl, ds.length, rfl, by omega, by omega, fun v h0 h1 => ?_⟩
  obtain ⟨d, hd, e⟩ := atI_mem h0 h1
  exact ⟨d, e, q d hd⟩
/-! ### _law_mixed -/
abbrev N__law_mixed : List PySem.Str := ["bag", "things", "found", "thing"]
abbrev P__law_mixed : List PySem.Str := ["bag", "things"]
def T__law_mixed : DS :=
  (dSeq (dSetO 2 (vLst vlNil))
  (dSeq (dFor (viSeq (vVar 1)) (vName 3)
  (dMu 2 "list" insertD (vlCons (vDef sp__law_take (vaB 0 (vaD (vOp addD (vCall lenD (vlCons (vVarC 2) vlNil)) (vConst (.int 1))) vaNil))) (vlCons (vVar 3) vlNil))))
  (dRetV 2)))

def sp__law_mixed : DSp := fun as M => ∃ ds, as = [.bag, .d (.lst ds)] ∧ ds.length ≤ 1000 ∧ ∀ es : List Dt, es.Perm ds → M (.lst es)
theorem len__law_mixed {as : List Ar} {M : Dt → Prop} (h : sp__law_mixed as M) : as.length = P__law_mixed.length := by obtain ⟨m, rfl, _⟩ := h; rfl
theorem ins_perm {α : Type} (es : List α) (n : Nat) (d : α) : (es.take n ++ [d] ++ es.drop n).Perm (es ++ [d]) := by
  have h : (es.take n ++ [d] ++ es.drop n).Perm (es.take n ++ es.drop n ++ [d]) := by
    rw [List.append_assoc, List.append_assoc]
    exact List.Perm.append_left _ List.perm_append_comm
  rwa [List.take_append_drop] at h
theorem take_snoc {α : Type} {ds : List α} {i : Nat} {d : α} (h : ds[i]? = some d) : ds.take (i + 1) = ds.take i ++ [d] := by rw [List.take_add_one, h]; rfl
theorem t__law_mixed {as : List Ar} {M : Dt → Prop} (h : sp__law_mixed as M) : T__law_mixed { nx := fun _ => False, rt := M } (stEv N__law_mixed as) := by
  obtain ⟨ds, rfl, few, q⟩ := h
  refine ⟨by show 0 ≤ _; omega, fun i ρ => ∃ es y, ρ = [some .bag, some (.d (.lst ds)), some (.own (.lst es)), y] ∧ es.Perm (ds.take i), ⟨[], none, rfl, by rw [List.take_zero]⟩, ?_, ?_⟩
  · rintro i d ρ hd ⟨es, y, rfl, p⟩
    have le : es.length ≤ 1000 := by rw [p.length_eq, List.length_take]; omega
    refine ⟨rfl, rfl, es.length + 1, rfl, by omega, by omega, fun v h0 h1 => ?_⟩
    refine ⟨by rw [slz]; omega, h0, by omega, _, _, rfl, ?_⟩
    rw [take_snoc hd]
    exact (ins_perm es v.toNat d).trans (p.append_right _)
  · rintro ρ ⟨es, y, rfl, p⟩
    rw [List.take_length] at p
    exact q es p
/-! ### _law_number_of -/
abbrev N__law_number_of : List PySem.Str := ["path", "head", "word", "sign"]
abbrev P__law_number_of : List PySem.Str := ["path", "head"]
def T__law_number_of : DS :=
  (dSeq (dSet 2 (vSl slD (vVarC 0) (vPart (vCall lenD (vlCons (vVarC 1) vlNil))) vNoPart))
  (dSeq (dIf (vOr (vBl (vOp neD (vSl slD (vVarC 0) vNoPart (vPart (vCall lenD (vlCons (vVarC 1) vlNil)))) (vVarC 1))) (vOr (vBl (vOp eqD (vVarC 2) (vConst (.str "")))) (vBl (vOp neD (vLc (viSeq (vVar 2)) (vName 3) (vBl (vOp notInD (vVarC 3) (vConst (.str "0123456789")))) (vVar 3) [3]) (vLst vlNil)))))
  (dRet (vConst .non))
  dNext)
  (dRet (vIfE (vBl (vOp eqD (vCall strFD (vlCons (vCall intFD (vlCons (vVarC 2) vlNil)) vlNil)) (vVarC 2))) (vCall intFD (vlCons (vVarC 2) vlNil)) (vConst .non)))))

def ovD : Option Int → Dt
  | none => .non
  | some i => .int i
def sp__law_number_of : DSp := fun as M => ∃ h x : PySem.Str, as = [.d (.str x), .d (.str h)] ∧ x.length ≤ 1000000 ∧ h.length ≤ 1000000 ∧ (allD (behind h x) = true → (behind h x).length ≤ 560) ∧ M (ovD (numW h x))
theorem len__law_number_of {as : List Ar} {M : Dt → Prop} (h : sp__law_number_of as M) : as.length = P__law_number_of.length := by obtain ⟨_, _, rfl, _⟩ := h; rfl
/-! comprehensions whose tests and items are plain: what is made so far -/
def FM (p : Dt → Bool) (f : Dt → Dt) (ds : List Dt) (i : Nat) : List Dt := ((ds.take i).filter p).map f
theorem FM_zero {p : Dt → Bool} {f : Dt → Dt} {ds : List Dt} : [] = FM p f ds 0 := by unfold FM; rw [List.take_zero]; rfl
theorem FM_end {p : Dt → Bool} {f : Dt → Dt} {ds : List Dt} : FM p f ds ds.length = (ds.filter p).map f := by unfold FM; rw [List.take_length]
theorem FM_yes {p : Dt → Bool} {f : Dt → Dt} {ds : List Dt} {i : Nat} {d : Dt} (h : ds[i]? = some d) (hp : p d = true) : FM p f ds i ++ [f d] = FM p f ds (i + 1) := by
  unfold FM
  rw [take_snoc h, List.filter_append, List.map_append]
  simp [hp]
theorem FM_no {p : Dt → Bool} {f : Dt → Dt} {ds : List Dt} {i : Nat} {d : Dt} (h : ds[i]? = some d) (hp : p d = false) : FM p f ds i = FM p f ds (i + 1) := by
  unfold FM
  rw [take_snoc h, List.filter_append, List.map_append]
  simp [hp]
theorem FM_len {p : Dt → Bool} {f : Dt → Dt} {ds : List Dt} {i : Nat} : (FM p f ds i).length ≤ ds.length := by
  unfold FM
  rw [List.length_map]
  exact Nat.le_trans (List.length_filter_le _ _) (by rw [List.length_take]; omega)
def MP (f : Dt → Dt) (ds : List Dt) (i : Nat) : List Dt := (ds.take i).map f
theorem MP_zero {f : Dt → Dt} {ds : List Dt} : [] = MP f ds 0 := by unfold MP; rw [List.take_zero]; rfl
theorem MP_end {f : Dt → Dt} {ds : List Dt} : MP f ds ds.length = ds.map f := by unfold MP; rw [List.take_length]
theorem MP_yes {f : Dt → Dt} {ds : List Dt} {i : Nat} {d : Dt} (h : ds[i]? = some d) : MP f ds i ++ [f d] = MP f ds (i + 1) := by
  unfold MP
  rw [take_snoc h, List.map_append]
  rfl
theorem MP_len {f : Dt → Dt} {ds : List Dt} {i : Nat} : (MP f ds i).length ≤ ds.length := by
  unfold MP
  rw [List.length_map, List.length_take]; omega
theorem charsD_at {z : PySem.Str} {i : Nat} {d : Dt} (h : (charsD z)[i]? = some d) : ∃ c, c ∈ z.cps.toList ∧ d = .str ⟨#[c]⟩ := by
  unfold charsD at h
  rw [List.getElem?_map] at h
  obtain ⟨c, hc, e⟩ := Option.map_eq_some_iff.mp h
  exact ⟨c, List.mem_of_getElem? hc, e.symm⟩
theorem charsD_len (z : PySem.Str) : (charsD z).length = z.length := by unfold charsD; rw [List.length_map, Array.length_toList]; rfl
/-- no sign of these -/
def notInD' (z : PySem.Str) : Dt → Bool
  | .str y => !(y.cps.toList.all fun c => decide (c ∈ z.cps.toList))
  | _ => false
theorem notInD_one (z : PySem.Str) (c : Nat) : notInD' z (Dt.str ⟨#[c]⟩) = !decide (c ∈ z.cps.toList) := by simp [notInD']
theorem not_noneD (z x : PySem.Str) : ((charsD x).filter (notInD' z)).isEmpty = allIn z x.cps.toList := by
  have key : ∀ l : List Nat, ((l.map fun c => Dt.str ⟨#[c]⟩).filter (notInD' z)).isEmpty = allIn z l := by
    intro l
    induction l with
    | nil => rfl
    | cons c l ih =>
      have e : notInD' z (Dt.str ⟨#[c]⟩) = !decide (c ∈ z.cps.toList) := by simp [notInD']
      rw [List.map_cons, List.filter_cons, e]
      show _ = (decide (c ∈ z.cps.toList) && allIn z l)
      by_cases m : c ∈ z.cps.toList
      · simp [m, ih]
      · simp [m]
  exact key _
theorem cut_beginsS (x h : PySem.Str) : decide (cutS x none (some (h.length : Nat)) = h) = begins h x := by
  rw [← _root_.DK.cut_begins]
  exact decide_eq_decide.mpr ⟨fun e => by rw [e], fun e => by injection e⟩
theorem t__law_number_of {as : List Ar} {M : Dt → Prop} (h : sp__law_number_of as M) : T__law_number_of { nx := fun _ => M .non, rt := M } (stEv N__law_number_of as) := by
  obtain ⟨h, x, rfl, hx, hh, few, q⟩ := h
  refine ⟨by rw [slz]; omega, by rw [slz]; omega, ?_⟩
  rw [_root_.DK.cut_behind]
  refine ⟨by rw [slz]; omega, by rw [slz]; omega, ?_⟩
  show if (!decide (cutS x none (some (h.length : Nat)) = h)) = true then _ else _
  rw [cut_beginsS]
  by_cases b : begins h x = true
  · rw [b]
    have wl : (behind h x).length ≤ 1000000 := by
      have := congrArg PySem.Str.length (_root_.DK.begins_eq b)
      rw [strLen_append] at this
      omega
    have hw : ∃ w, w = behind h x := ⟨_, rfl⟩
    obtain ⟨w, hw⟩ := hw
    rw [← hw] at wl few ⊢
    have qn : ¬ (allD w = true ∧ good w = true) → M .non := fun n => by
      unfold numW at q
      rw [← hw, if_neg (fun y => n y.2)] at q
      exact q
    refine iteF ?_
    show if decide (w = "") = true then _ else _
    by_cases e0 : w.length = 0
    · rw [decide_eq_true (_root_.DK.str_nil.mpr (List.length_eq_zero_iff.mp (by rw [← len_tl]; exact e0)))]
      refine qn fun y => ?_
      have g := y.1
      unfold allD at g
      rw [decide_eq_false (by omega)] at g
      exact Bool.noConfusion g
    · rw [decide_eq_false (show ¬ w = "" from fun z => e0 (by rw [z]; rfl))]
      refine iteF ?_
      refine ⟨fun i acc => acc = FM (notInD' Fg) id (charsD w) i, FM_zero, ?_, ?_⟩
      · rintro i d acc hd rfl
        obtain ⟨c, hc, rfl⟩ := charsD_at hd
        show if (!(!(Builtin.Str.occurrences Fg ⟨#[c]⟩ 0 Fg.length 1).isEmpty)) = true then _ else _
        rw [PySem.StrLaws.found_one Fg c]
        by_cases m : c ∈ Fg.cps.toList
        · rw [decide_eq_true m]
          exact FM_no hd (by rw [notInD_one, decide_eq_true m]; rfl)
        · rw [decide_eq_false m]
          refine ⟨?_, FM_yes hd (by rw [notInD_one, decide_eq_false m]; rfl)⟩
          have := @FM_len (notInD' Fg) id (charsD w) i
          rw [charsD_len] at this
          rw [slz]; omega
      · rintro acc rfl
        rw [FM_end, List.map_id]
        refine ⟨by show 0 ≤ _; omega, ?_⟩
        show if (!((charsD w).filter (notInD' Fg)).isEmpty) = true then _ else _
        rw [not_noneD]
        by_cases ea : allIn Fg w.cps.toList = true
        · rw [ea]
          have ad : allD w = true := by unfold allD; rw [decide_eq_true (show 1 ≤ w.length by omega), ea]; rfl
          have l5 := few ad
          obtain ⟨i1, i2, i3⟩ := _root_.DK.allD_val ad (by omega)
          have nb := _root_.DK.num_back ad (by omega)
          refine ⟨_, i1, by omega, _root_.DK.log_le (k := w.length) (by rw [i2]; exact i3) (by omega), ?_⟩
          show if decide (num (val w) = w) = true then _ else _
          by_cases g : good w = true
          · rw [decide_eq_true (nb.mpr g)]
            refine ⟨_, i1, by omega, ?_⟩
            unfold numW at q
            rw [← hw, if_pos ⟨b, ad, g⟩] at q
            exact q
          · rw [decide_eq_false (fun z => g (nb.mp z))]
            exact qn fun y => g y.2
        · rw [Bool.not_eq_true _ |>.mp ea]
          refine qn fun y => ea ?_
          have := y.1
          unfold allD at this
          exact (Bool.and_eq_true_iff.mp this).2
  · rw [Bool.not_eq_true _ |>.mp b]
    unfold numW at q
    rw [if_neg (fun y => b y.1)] at q
    exact q
end VL
/-! `name = [.. for k in dict]`; own.pop(k) as a statement; reversed walks; update. -/
namespace VL
open PySem PySem.Spec PyProof.Rows L2 TL RX
section
variable {X : Cx} {pos : Pos}
theorem ps_either {X : Cx} {st : Stmt} {t u : TS} (h : PS X st t) (k : PS X st u) : PS X st (fun D σ H => t D σ H ∨ u D σ H) := ⟨fun pins s σ H Q I q => q.elim (h.run pins s σ H Q I) (k.run pins s σ H Q I)⟩
theorem setLcK_run {i j : Nat} {σ : L2.St} {H : Hp} {g : DG} {tt : DT} {te : DE} {vs : List Nat} {f : Fr} {O : Addr → Prop} {ρ : Ev} {M : Dt → Prop} {Q : L2.VK} (r : Rel f O H σ ρ) (q : vLc (viKeys i) g tt te vs ρ M)
    (k : ∀ d a H', M d → Nxt (gO f O) H H' → H a = none → OwnC ((gO f O).and a) H' a d → Q (.ref a) H') :
    tLockE (tLc (iKeys (tVar i)) (lG vs g) (lT tt) (lE te) vs) σ H Q ∨ tLc (iKeys (tVar i)) (lG vs g) (lT tt) (lE te) vs σ H Q := by
  unfold vLc viKeys at q
  split at q
  · next ks ds e =>
    obtain ⟨W, w0, turn, done⟩ := q
    exact lockK (B := fun σ H1 J Q => ∀ D, H1 D = none → ∃ W : Nat → Nat → Hp → Prop, (∃ m, W 0 m (upd H1 D (.lst []))) ∧ ∀ i m H, W i m H →
      (J.stop i H ∧ Q (.ref D) H) ∨ (J.go i H ∧ ∃ Nx : Hp → Prop, (∀ H', Nx H' → ∃ m', m' < m ∧ W (i + 1) m' H') ∧ ∀ x H', J.yld i H x H' → (lG vs g) x (L2.wipe σ vs) H' fun σ2 H2 => L2.wipe σ2 vs = L2.wipe σ vs ∧ (lT tt) σ2 H2 fun b H3 =>
        if b = true then (lE te) σ2 H3 fun y H4 => ∃ acc, H4 D = some (.lst acc) ∧ acc.length < sizeLine ∧ Nx (upd H4 D (.lst (acc ++ [y]))) else Nx H3)) (fun _ _ _ => rfl) r e k
      fun f' H1 J Q r1 _ go k1 => vlc_body r1 go W w0 turn done k1
  · exact q.elim
theorem vs_setLcK {fr : Bool} {i j : Nat} {x y : PySem.Str} {px py : Pos} {elt tg : Expr} {ifs : List Expr} {scope : Scope} {own : List (PySem.Str × Nat)} {spos : Pos} {g : DG} {tt : DT} {te : DE} (hc : X.calm = true) (hN : X.N.Nodup) (hy : X.N[j]? = some y) (hyl : X.env.scope.names.lookup y = some .local)
    (hsw : swapsWith (.ListComp elt [⟨tg, .Name x px, ifs, 0⟩] scope pos) (some (.Name y py)) spos.line X.env = pure true) (hi : X.N[i]? = some x) (hv : Vis X.env.scope x) (ok : BlkOk X.N X.env.scope scope own)
    (hg : ∀ (s : Shared) (H : Hp) (C : Addr) (cl : List (PySem.Str × Addr)) (fp : List Addr), VG (X.blk s H scope (compEnvC scope cl C X.env) fp) (own.map (·.2)) tg g) (ht : ∀ (s : Shared) (H : Hp) (C : Addr) (cl : List (PySem.Str × Addr)) (fp : List Addr), VTs (X.blk s H scope (compEnvC scope cl C X.env) fp) ifs tt)
    (he : ∀ (s : Shared) (H : Hp) (C : Addr) (cl : List (PySem.Str × Addr)) (fp : List Addr), VE (X.blk s H scope (compEnvC scope cl C X.env) fp) elt te) (hs : ∀ x', foldedSetIterable (.Name x px) X.env x' = pure x' := by intro _; rfl)
    (hd : (x == ("__debug__" : PySem.Str)) = false := by decide) (hcd : (x == ("__classdict__" : PySem.Str)) = false := by decide) :
    VS fr X (.Assign [.Name y py] (.ListComp elt [⟨tg, .Name x px, ifs, 0⟩] scope pos) spos) (dSet j (vLc (viKeys i) g tt te (own.map (·.2)))) :=
  have b := ps_setLc (pos := pos) hc hN hy hyl hsw (pi_keys (tg := tg) (pe_var (pos := px) hi hv hd hcd)) ok hg ht he hs
  ps_imp (ps_either (ps_lock b) b) fun E σ H ⟨f, O, ρ, D, r, q, k⟩ =>
    setLcK_run (j := j) r q fun d a H1 m n na p => k.nx _ _ _ _ m ((r.nxt n).setD (p.rp (not_new r na))) (n.kep r.ctx)
theorem vs_setLcKO {fr : Bool} {i j : Nat} {x y : PySem.Str} {px py : Pos} {elt tg : Expr} {ifs : List Expr} {scope : Scope} {own : List (PySem.Str × Nat)} {spos : Pos} {g : DG} {tt : DT} {te : DE} (hc : X.calm = true) (hN : X.N.Nodup) (hy : X.N[j]? = some y) (hyl : X.env.scope.names.lookup y = some .local)
    (hsw : swapsWith (.ListComp elt [⟨tg, .Name x px, ifs, 0⟩] scope pos) (some (.Name y py)) spos.line X.env = pure true) (hi : X.N[i]? = some x) (hv : Vis X.env.scope x) (ok : BlkOk X.N X.env.scope scope own)
    (hg : ∀ (s : Shared) (H : Hp) (C : Addr) (cl : List (PySem.Str × Addr)) (fp : List Addr), VG (X.blk s H scope (compEnvC scope cl C X.env) fp) (own.map (·.2)) tg g) (ht : ∀ (s : Shared) (H : Hp) (C : Addr) (cl : List (PySem.Str × Addr)) (fp : List Addr), VTs (X.blk s H scope (compEnvC scope cl C X.env) fp) ifs tt)
    (he : ∀ (s : Shared) (H : Hp) (C : Addr) (cl : List (PySem.Str × Addr)) (fp : List Addr), VE (X.blk s H scope (compEnvC scope cl C X.env) fp) elt te) (hs : ∀ x', foldedSetIterable (.Name x px) X.env x' = pure x' := by intro _; rfl)
    (hd : (x == ("__debug__" : PySem.Str)) = false := by decide) (hcd : (x == ("__classdict__" : PySem.Str)) = false := by decide) :
    VS fr X (.Assign [.Name y py] (.ListComp elt [⟨tg, .Name x px, ifs, 0⟩] scope pos) spos) (dSetO j (vLc (viKeys i) g tt te (own.map (·.2)))) :=
  have b := ps_setLc (pos := pos) hc hN hy hyl hsw (pi_keys (tg := tg) (pe_var (pos := px) hi hv hd hcd)) ok hg ht he hs
  ps_imp (ps_either (ps_lock b) b) fun E σ H ⟨f, O, ρ, D, r, q, k⟩ =>
    setLcK_run (j := j) r q fun d a H1 m n na p => k.nx _ _ _ _ m (r.setO n na p) (kep_new r n na)
end
end VL
/-! Versions, numbers behind paths, texts of logs and locks: by data. -/
namespace VL
open PySem PySem.Spec PyProof.Rows L2 TL RX
open _root_.DK (Fl numW numsF behind begins allD good num val Fg allIn Vs verD FsOk Pl plD etD PlOk lockTx wordsL Lg logD logT headT GOk Tm Pk regD RgOk pkD PNM Nl Bk Pt tm_joinG fsD)
/-! ### _law_versions -/
abbrev N__law_versions : List PySem.Str := ["bag", "many", "found", "turn"]
abbrev P__law_versions : List PySem.Str := ["bag", "many"]
def T__law_versions : DS :=
  (dSeq (dSetO 2 (vLst vlNil))
  (dSeq (dFor (viRange1 (vlCons (vVar 1) vlNil)) (vName 3)
  (dMu 2 "list" appendD (vlCons (vTup (vlCons (vDef sp__law_one (vaB 0 (vaD (vLst (vlCons (vConst (.int 1)) (vlCons (vConst (.int 2)) (vlCons (vConst (.int 1)) (vlCons (vConst (.int 0)) (vlCons (vConst (.int 3)) vlNil)))))) vaNil))) (vlCons (vDef sp__law_take (vaB 0 (vaD (vConst (.int 3)) vaNil))) (vlCons (vDef sp__law_take (vaB 0 (vaD (vConst (.int 2)) vaNil))) vlNil)))) vlNil)))
  (dRet (vSortsV (vVarC 2)))))

def sp__law_versions : DSp := fun as M => ∃ n : Nat, as = [.bag, .d (.int (n : Nat))] ∧ 1 ≤ n ∧ n ≤ 5 ∧ ∀ vs : List (List Int), (∀ v ∈ vs, Vs v) → vs ≠ [] → vs.length ≤ n → vs.Nodup → M (.lst (vs.map verD))
theorem len__law_versions {as : List Ar} {M : Dt → Prop} (h : sp__law_versions as M) : as.length = P__law_versions.length := by obtain ⟨m, rfl, _⟩ := h; rfl
theorem range_len {lo : Int} {n : Nat} : (rangeD lo n).length = n := by unfold rangeD; rw [List.length_map, List.length_range]
theorem range_at {lo : Int} {n i : Nat} {d : Dt} (h : (rangeD lo n)[i]? = some d) : i < n ∧ d = .int (lo + (i : Nat)) := by
  unfold rangeD at h
  rw [List.getElem?_map] at h
  obtain ⟨j, hj, e⟩ := Option.map_eq_some_iff.mp h
  have l := (List.getElem?_eq_some_iff.mp hj).1
  rw [List.length_range] at l
  rw [List.getElem?_range l] at hj
  cases hj
  exact ⟨l, e.symm⟩
theorem t__law_versions {as : List Ar} {M : Dt → Prop} (h : sp__law_versions as M) : T__law_versions { nx := fun _ => False, rt := M } (stEv N__law_versions as) := by
  obtain ⟨n, rfl, n1, n5, q⟩ := h
  refine ⟨by show 0 ≤ _; omega, ⟨by omega, by omega⟩, fun i ρ => ∃ vs y, ρ = [some .bag, some (.d (.int (n : Nat))), some (.own (.lst (List.map verD vs))), y] ∧ vs.length = i ∧ ∀ v ∈ vs, Vs v, ⟨[], none, rfl, rfl, fun v hv => by cases hv⟩, ?_, ?_⟩
  · rintro i d ρ hd ⟨vs, y, rfl, l, hv⟩
    have lt := (range_at hd).1
    refine ⟨rfl, rfl, by rw [slz]; decide, [.int 1, .int 2, .int 1, .int 0, .int 3], rfl, by decide, by decide, fun x hx => ?_⟩
    obtain ⟨a, ha, rfl⟩ : ∃ a : Int, (0 ≤ a ∧ a < 1000000) ∧ x = .int a := by
      simp only [List.mem_cons, List.not_mem_nil, or_false] at hx
      rcases hx with e | e | e | e | e <;> exact ⟨_, by decide, e⟩
    refine ⟨rfl, 3, rfl, by decide, by decide, fun b b0 b1 => ⟨rfl, 2, rfl, by decide, by decide, fun c c0 c1 => ⟨by rw [slz]; show 3 ≤ _; omega, by rw [slz, List.length_map]; omega, vs ++ [[a, b, c]], _, by rw [List.map_append]; rfl, by rw [List.length_append, l]; rfl, fun v m => ?_⟩⟩⟩
    rcases List.mem_append.mp m with m | m
    · exact hv v m
    · rw [List.mem_singleton.mp m]; exact _root_.DK.vs3 ha ⟨b0, by omega⟩ ⟨c0, by omega⟩
  · rintro ρ ⟨vs, y, rfl, l, hv⟩
    rw [range_len] at l
    have nn : ((n : Nat) : Int).toNat = n := by omega
    refine ⟨vs, rfl, hv, fun e => by rw [e] at l; simp at l; omega, by omega, fun ws h1 h2 h3 h4 => q ws (fun w hw => hv w (h1 w hw)) h2 (by omega) h4⟩
/-! ### _law_numbers -/
abbrev N__law_numbers : List PySem.Str := ["files", "head", "found", "path", "number"]
abbrev P__law_numbers : List PySem.Str := ["files", "head"]
def T__law_numbers : DS :=
  (dSeq (dSet 2 (vLc (viKeys 0) (vName 3) vYes (vDef sp__law_number_of (vaD (vVar 3) (vaD (vVar 1) vaNil))) [3]))
  (dRet (vCall sortedND (vlCons (vLc (viSeq (vVar 2)) (vName 4) (vBl (vOp notD (vVarC 4) (vConst .non))) (vVar 4) [4]) vlNil))))

def sp__law_numbers : DSp := fun as M => ∃ (h : PySem.Str) (F : Fl), as = [.d (fsD F), .d (.str h)] ∧ F.length ≤ 1000 ∧ h.length ≤ 1000000 ∧ (∀ p ∈ F, p.1.length ≤ 550) ∧ ∀ ms : List Int, ms.Perm (numsF h F) → ms.Pairwise (· ≤ ·) → M (.lst (ms.map Dt.int))
theorem len__law_numbers {as : List Ar} {M : Dt → Prop} (h : sp__law_numbers as M) : as.length = P__law_numbers.length := by obtain ⟨_, _, rfl, _⟩ := h; rfl
theorem nums_filt (h : PySem.Str) : ∀ F : Fl, ((F.map fun p => ovD (numW h p.1)).filter fun d => !isNon d) = (numsF h F).map Dt.int
  | [] => rfl
  | p :: F => by
    have ih := nums_filt h F
    unfold numsF at ih ⊢
    rw [List.map_cons, List.filter_cons, List.filterMap_cons]
    cases numW h p.1 with
    | none => simpa [ovD, isNon] using ih
    | some i => simpa [ovD, isNon] using ih
theorem t__law_numbers {as : List Ar} {M : Dt → Prop} (h : sp__law_numbers as M) : T__law_numbers { nx := fun _ => False, rt := M } (stEv N__law_numbers as) := by
  obtain ⟨h, F, rfl, few, hh, sm, q⟩ := h
  have fl : (F.map fun p => ovD (numW h p.1)).length = F.length := List.length_map _
  refine ⟨fun i acc => acc = (F.take i).map fun p => ovD (numW h p.1), rfl, ?_, ?_⟩
  · rintro i d acc hd rfl
    rw [List.getElem?_map, List.getElem?_map] at hd
    cases e : F[i]? with
    | none => rw [e] at hd; cases hd
    | some p =>
      rw [e] at hd
      cases hd
      have l5 := sm p (List.mem_of_getElem? e)
      refine ⟨h, p.1, rfl, by omega, hh, fun _ => ?_, ?_⟩
      · have : (behind h p.1).length ≤ p.1.length := by
          show ((TL.tl p.1).drop h.length).toArray.size ≤ _
          rw [List.size_toArray, List.length_drop, ← len_tl]; omega
        omega
      · refine ⟨?_, by show _ = List.map _ (List.take (i + 1) F); rw [take_snoc e, List.map_append]; rfl⟩
        rw [List.length_map, List.length_take, slz]; omega
  · rintro acc rfl
    rw [List.length_map, List.length_map, List.take_length]
    refine ⟨fun i acc => acc = FM (fun d => !isNon d) id (F.map fun p => ovD (numW h p.1)) i, FM_zero, ?_, ?_⟩
    · rintro i d acc hd rfl
      refine ⟨rfl, ?_⟩
      by_cases z : isNon d = true
      · rw [z]; exact FM_no hd (by rw [z]; rfl)
      · rw [Bool.not_eq_true _ |>.mp z]
        refine ⟨?_, FM_yes hd (by rw [Bool.not_eq_true _ |>.mp z]; rfl)⟩
        have := @FM_len (fun d => !isNon d) id (F.map fun p => ovD (numW h p.1)) i
        rw [List.length_map] at this
        rw [slz]; omega
    · rintro acc rfl
      rw [FM_end, List.map_id, nums_filt]
      exact ⟨numsF h F, rfl, q⟩
theorem mapAt {α : Type} {f : α → Dt} {l : List α} {i : Nat} {d : Dt} (h : (l.map f)[i]? = some d) : ∃ a, l[i]? = some a ∧ d = f a := by
  rw [List.getElem?_map] at h
  obtain ⟨a, h1, h2⟩ := Option.map_eq_some_iff.mp h
  exact ⟨a, h1, h2.symm⟩
/-! ### _law_log_text -/
abbrev N__law_log_text : List PySem.Str := ["log", "lines", "step"]
abbrev P__law_log_text : List PySem.Str := ["log"]
def T__law_log_text : DS :=
  (dSeq (dSet 1 (vOp addD (vLst (vlCons (vOp addD (vConst (.str "log ")) (vCall strFD (vlCons (vCall lenD (vlCons (vOp ixD (vVarC 0) (vConst (.int 0))) vlNil)) vlNil))) vlNil)) (vLc (viSeq (vOp ixD (vVarC 0) (vConst (.int 0)))) (vName 2) vYes (vMeth "str" joinD (vConst (.str " ")) (vlCons (vVarC 2) vlNil)) [2])))
  (dRet (vMeth "str" joinD (vConst (.str "\n")) (vlCons (vOp addD (vVarC 1) (vLst (vlCons (vOp addD (vConst (.str "lock ")) (vOp ixD (vVarC 0) (vConst (.int 1)))) vlNil))) vlNil))))

def sp__law_log_text : DSp := fun as M => ∃ g : Lg, as = [.d (logD g)] ∧ GOk g ∧ M (.str (logT g))
theorem len__law_log_text {as : List Ar} {M : Dt → Prop} (h : sp__law_log_text as M) : as.length = P__law_log_text.length := by obtain ⟨_, rfl, _⟩ := h; rfl
theorem sumL_le {f : PySem.Str → Nat} {k : Nat} {l : List PySem.Str} (h : ∀ x ∈ l, f x ≤ k) : (l.map f).sum ≤ l.length * k := _root_.DK.sum_leN h
theorem t__law_log_text {as : List Ar} {M : Dt → Prop} (h : sp__law_log_text as M) : T__law_log_text { nx := fun _ => M .non, rt := M } (stEv N__law_log_text as) := by
  obtain ⟨g, rfl, G, q⟩ := h
  obtain ⟨rows, lk⟩ := g
  have lines := _root_.DK.lines_fitA G
  have hl := lines.2
  have few := G.few
  have lw := G.l
  refine ⟨.tup (rows.map _root_.DK.wordsD), rfl, ?_⟩
  refine ⟨_root_.DK.log_le (k := 100) (by rw [List.length_map]; show rows.length < _; have : rows.length ≤ 100 := few; exact Nat.lt_of_le_of_lt this (by decide +kernel)) (by decide), ?_⟩
  have e1 : ("log " ++ (toString (((rows.map _root_.DK.wordsD).length : Nat) : Int) : String) : PySem.Str) = headT rows.length := by rw [List.length_map]; rfl
  refine ⟨?_, by show 1 ≤ _; rw [slz]; decide, ?_⟩
  · have e : ("log " : PySem.Str).length = 4 := by decide +kernel
    have : ("log " ++ (toString (((rows.map _root_.DK.wordsD).length : Nat) : Int) : String) : PySem.Str).length ≤ 10 := by rw [e1]; exact hl
    rw [strLen_append] at this
    rw [slz]; omega
  rw [e1]
  refine ⟨_, rfl, fun i acc => acc = (rows.take i).map fun ws => .str (Txt.join Bk ws), rfl, ?_, ?_⟩
  · rintro i d acc hd rfl
    obtain ⟨ws, hw, rfl⟩ := mapAt hd
    have hm := G.w ws (List.mem_of_getElem? hw)
    refine ⟨rfl, ws, strsOf_map ws, ?_, ?_, by show _ = List.map _ (List.take (i + 1) rows); rw [take_snoc hw, List.map_append]; rfl⟩
    · have hb : Bk.length = 1 := by decide +kernel
      have s := _root_.DK.sum_le hm.2
      have m : ws.length * 100 ≤ 3 * 100 := Nat.mul_le_mul_right _ hm.1
      have : ws.length ≤ 3 := hm.1
      show _ + ws.length * Bk.length ≤ _
      rw [hb]; omega
    · rw [List.length_map, List.length_take, slz]; have : rows.length ≤ 100 := few; omega
  · rintro acc rfl
    rw [List.length_map, List.take_length]
    refine ⟨by rw [List.length_map, slz]; have : rows.length ≤ 100 := few; show 1 + _ ≤ _; omega, ?_⟩
    have e5 : ("lock " : PySem.Str).length = 5 := by decide +kernel
    refine ⟨rfl, _, rfl, by rw [e5, slz]; have : lk.length ≤ 100 := lw; omega, by show 1 ≤ _; rw [slz]; decide, ?_, ?_⟩
    · show (rows.map fun ws => Dt.str (Txt.join Bk ws)).length + 1 + 1 ≤ _
      rw [List.length_map, slz]; have : rows.length ≤ 100 := few; omega
    · have e7 : ([Dt.str (headT rows.length)] ++ rows.map (fun ws => Dt.str (Txt.join Bk ws)) ++ [Dt.str ("lock " ++ lk)]) = (headT rows.length :: (rows.map (Txt.join Bk) ++ ["lock " ++ lk])).map Dt.str := by
        simp [List.map_append, List.map_map, Function.comp_def]
      rw [e7]
      exact ⟨_, strsOf_map _, lines.1, q⟩
/-! ### _law_lock_text -/
abbrev N__law_lock_text : List PySem.Str := ["plan", "found", "name", "version", "features", "words", "part"]
abbrev P__law_lock_text : List PySem.Str := ["plan"]
def T__law_lock_text : DS :=
  (dSeq (dSetO 1 (vLst vlNil))
  (dSeq (dFor (viSeq (vCall sortedKD (vlCons (vVarC 0) vlNil))) (vName 2)
  (dSeq (dAsg (vOp ixD (vVarC 0) (vVarC 2)) (vgTup 2 (vgCons (vName 3) (vgCons (vName 4) vgNil))))
  (dSeq (dSet 5 (vLst (vlCons (vConst (.str "lock")) (vlCons (vVar 2) (vlCons (vMeth "str" joinD (vConst (.str ".")) (vlCons (vLc (viSeq (vVar 3)) (vName 6) vYes (vCall strFD (vlCons (vVarC 6) vlNil)) [6]) vlNil)) vlNil)))))
  (dMu 1 "list" appendD (vlCons (vMeth "str" joinD (vConst (.str " ")) (vlCons (vOp addD (vVarC 5) (vIfE (vBl (vOp neD (vVarC 4) (vTup vlNil))) (vOp addD (vLst (vlCons (vConst (.str ";")) (vlCons (vConst (.str "with")) vlNil))) (vCall listFD (vlCons (vVarC 4) vlNil))) (vLst vlNil))) vlNil)) vlNil)))))
  (dRet (vMeth "str" joinD (vConst (.str "\n")) (vlCons (vVarC 1) vlNil)))))

def sp__law_lock_text : DSp := fun as M => ∃ L : Pl, as = [.d (plD L)] ∧ L.length ≤ 40 ∧ (L.map (·.1)).Nodup ∧ (∀ e ∈ L, e.1 ∈ PNM ∧ Vs e.2.1) ∧ ∀ S : Pl, S.Perm L → sortedS (S.map (·.1)) = true → M (.str (lockTx S))
theorem len__law_lock_text {as : List Ar} {M : Dt → Prop} (h : sp__law_lock_text as M) : as.length = P__law_lock_text.length := by obtain ⟨_, rfl, _⟩ := h; rfl
theorem look_at {L : Pl} (nd : (L.map (·.1)).Nodup) {e : PySem.Str × List Int × Bool} (h : e ∈ L) : lookD (L.map (·.1)) (L.map fun e => etD e.2) e.1 = some (etD e.2) := by
  induction L with
  | nil => cases h
  | cons p L ih =>
    rw [List.map_cons, List.nodup_cons] at nd
    show (if p.1 = e.1 then some (etD p.2) else lookD (L.map (·.1)) (L.map fun e => etD e.2) e.1) = _
    rcases List.mem_cons.mp h with z | z
    · rw [z, if_pos rfl]
    · rw [if_neg (fun y => nd.1 (by rw [y]; exact List.mem_map.mpr ⟨e, z, rfl⟩))]
      exact ih nd.2 z
theorem perm_keys {L : Pl} (nd : (L.map (·.1)).Nodup) {ys : List PySem.Str} (p : ys.Perm (L.map (·.1))) : ∃ S : Pl, S.Perm L ∧ S.map (·.1) = ys := by
  induction ys generalizing L with
  | nil => exact ⟨[], by have := p.length_eq; rw [List.length_map] at this; rw [List.length_eq_zero_iff.mp this.symm], rfl⟩
  | cons y ys ih =>
    obtain ⟨e, he, rfl⟩ := List.mem_map.mp (p.mem_iff.mp List.mem_cons_self)
    obtain ⟨A, B, rfl⟩ := List.append_of_mem he
    have p2 : (A ++ e :: B).Perm (e :: (A ++ B)) := List.perm_middle
    have p3 := p.trans (p2.map (·.1))
    rw [List.map_cons] at p3
    have p4 := p3.cons_inv
    have nd2 : ((A ++ B).map (·.1)).Nodup := by
      have := (p2.map (·.1)).nodup_iff.mp nd
      rw [List.map_cons, List.nodup_cons] at this
      exact this.2
    obtain ⟨S, h1, h2⟩ := ih nd2 p4
    exact ⟨e :: S, (List.Perm.cons e h1).trans p2.symm, by rw [List.map_cons, h2]⟩
theorem words_fit {e : PySem.Str × List Int × Bool} (h1 : e.1 ∈ PNM) (h2 : Vs e.2.1) : ((wordsL e).map (·.length)).sum + (wordsL e).length * Bk.length ≤ 16777216 := by
  have a : ∀ p ∈ wordsL e, p.length ≤ 21 := fun p hp => by
    unfold wordsL at hp
    rcases List.mem_append.mp hp with hp | hp
    · simp only [List.mem_cons, List.not_mem_nil, or_false] at hp
      rcases hp with rfl | rfl | rfl
      · decide +kernel
      · exact (show ∀ n ∈ PNM, n.length ≤ 21 by decide +kernel) _ h1
      · exact (_root_.DK.ver_tm h2).len
    · split at hp
      · exact (show ∀ n ∈ ([(";" : PySem.Str), "with", "f"]), n.length ≤ 21 by decide +kernel) p hp
      · cases hp
  have l : (wordsL e).length ≤ 6 := by unfold wordsL; rw [List.length_append]; split <;> (simp only [List.length_cons, List.length_nil]; omega)
  have s := _root_.DK.sum_le a
  have hb : Bk.length = 1 := by decide +kernel
  rw [hb]; omega
theorem t__law_lock_text {as : List Ar} {M : Dt → Prop} (h : sp__law_lock_text as M) : T__law_lock_text { nx := fun _ => M .non, rt := M } (stEv N__law_lock_text as) := by
  obtain ⟨L, rfl, few, nd, ok, q⟩ := h
  refine ⟨by show 0 ≤ _; omega, ?_⟩
  refine ⟨by rw [List.length_map]; omega, fun ys py so => ?_⟩
  obtain ⟨S, pS, eS⟩ := perm_keys nd py
  subst eS
  have lS : S.length = L.length := pS.length_eq
  refine ⟨fun i ρ => ∃ a b c d e, ρ = [some (.d (plD L)), some (.own (.lst ((S.take i).map fun e => .str (Txt.join Bk (wordsL e))))), a, b, c, d, e], ⟨_, _, _, _, _, rfl⟩, ?_, ?_⟩
  · rintro i d ρ hd ⟨a, b, c, x, y, rfl⟩
    rw [List.map_map] at hd
    obtain ⟨e, he, rfl⟩ := mapAt hd
    have hm : e ∈ L := pS.mem_iff.mp (List.mem_of_getElem? he)
    obtain ⟨hn, hv⟩ := ok e hm
    have lt := _root_.DK.line_tm hn hv
    have vt := _root_.DK.ver_tm hv
    have nl : e.1.length ≤ 10 := (show ∀ n ∈ PNM, n.length ≤ 10 by decide +kernel) _ hn
    have v3 := hv.1
    refine ⟨_, look_at nd hm, rfl, rfl, ?_⟩
    refine ⟨rfl, fun i acc => acc = (e.2.1.take i).map fun n => Dt.str (num n), rfl, ?_, ?_⟩
    · rintro j d acc hd rfl
      obtain ⟨n, hn', rfl⟩ := mapAt hd
      obtain ⟨n0, n1⟩ := hv.2 n (List.mem_of_getElem? hn')
      refine ⟨_root_.DK.log_le (k := 6) (by rw [show (10 : Nat) ^ 6 = 1000000 by decide +kernel]; omega) (by decide), ?_, by show _ = List.map _ (List.take (j + 1) e.2.1); rw [take_snoc hn', List.map_append]; rfl⟩
      rw [List.length_map, List.length_take, slz]; omega
    · rintro acc rfl
      rw [List.length_map, List.take_length]
      have ev : (e.2.1.map fun n => Dt.str (num n)) = (e.2.1.map num).map Dt.str := by rw [List.map_map]; rfl
      rw [ev]
      refine ⟨_, strsOf_map _, ?_, by rw [slz]; show 3 ≤ _; omega, ?_⟩
      · have s := _root_.DK.sum_le (ps := e.2.1.map num) (m := 6) fun p hp => by
          obtain ⟨n, hn', rfl⟩ := List.mem_map.mp hp
          exact (_root_.DK.num_small (hv.2 n hn')).len
        rw [List.length_map, v3] at s
        rw [List.length_map, v3]
        have : ("." : PySem.Str).length = 1 := by decide +kernel
        rw [this]; omega
      · have wf := words_fit hn hv
        obtain ⟨nm, v, bb⟩ := e
        have fin : ∀ z, z = Txt.join Bk (wordsL (nm, v, bb)) → ((S.take i).map fun e => Dt.str (Txt.join Bk (wordsL e))) ++ [Dt.str z] = (S.take (i + 1)).map fun e => Dt.str (Txt.join Bk (wordsL e)) := fun z hz => by
          rw [take_snoc he, List.map_append, hz]; rfl
        cases bb with
        | false =>
          refine ⟨rfl, rfl, Nat.zero_le _, Nat.zero_le _, by rw [slz]; show 3 + 0 ≤ _; decide, _, strsOf_map (wordsL (nm, v, false)), wf, by rw [List.length_map, List.length_take, slz]; omega, ?_⟩
          exact ⟨_, _, _, _, _, by rw [← fin _ rfl]; rfl⟩
        | true =>
          refine ⟨rfl, rfl, Nat.zero_le _, by show 2 ≤ _; rw [slz]; decide, by rw [slz]; show 2 + 1 ≤ _; decide, by rw [slz]; show 3 + 3 ≤ _; decide, _, strsOf_map (wordsL (nm, v, true)), wf, by rw [List.length_map, List.length_take, slz]; omega, ?_⟩
          exact ⟨_, _, _, _, _, by rw [← fin _ rfl]; rfl⟩
  · rintro ρ ⟨a, b, c, x, y, rfl⟩
    have e1 : (S.take (((S.map (·.1)).map Dt.str).length)) = S := by rw [List.length_map, List.length_map, List.take_length]
    rw [e1]
    refine ⟨rfl, S.map fun e => Txt.join Bk (wordsL e), ?_, ?_, q S pS so⟩
    · have e : (S.map fun e => Dt.str (Txt.join Bk (wordsL e))) = (S.map fun e => Txt.join Bk (wordsL e)).map Dt.str := by rw [List.map_map]; rfl
      rw [e]; exact strsOf_map _
    · have s := _root_.DK.sum_le (ps := S.map fun e => Txt.join Bk (wordsL e)) (m := 132) fun p hp => by
        obtain ⟨e, he, rfl⟩ := List.mem_map.mp hp
        obtain ⟨h1, h2⟩ := ok e (pS.mem_iff.mp he)
        exact (_root_.DK.line_tm h1 h2).len
      rw [List.length_map, lS] at s
      rw [List.length_map, lS]
      have : ("\n" : PySem.Str).length = 1 := by decide +kernel
      rw [this]; omega
end VL
/-! Registries, plans: by data. -/
namespace VL
open PySem PySem.Spec PyProof.Rows L2 TL RX
open _root_.DK (Fl Vs verD Pl plD etD PlOk Pk regD RgOk PkOk pkD ftD PNM ODC somP putA)
/-! ### _law_some_plan -/
abbrev N__law_some_plan : List PySem.Str := ["bag", "registry", "found", "pack", "feature"]
abbrev P__law_some_plan : List PySem.Str := ["bag", "registry"]
def T__law_some_plan : DS :=
  (dSeq (dSetO 2 vNewD)
  (dSeq (dFor (viSeq (vDef sp__law_mixed (vaB 0 (vaD (vCall listFD (vlCons (vOp ixD (vVarC 1) (vConst (.int 0))) vlNil)) vaNil)))) (vName 3)
  (dIf (vBl (vOp gtD (vDef sp__law_take (vaB 0 (vaD (vConst (.int 3)) vaNil))) (vConst (.int 0))))
  (dPut 2 (vOp ixD (vVarC 3) (vConst (.int 0))) (vTup (vlCons (vOp ixD (vVarC 3) (vConst (.int 1))) (vlCons (vCall tupleFD (vlCons (vLc (viSeq (vOp ixD (vVarC 3) (vConst (.int 5)))) (vName 4) (vBl (vOp eqD (vDef sp__law_take (vaB 0 (vaD (vConst (.int 2)) vaNil))) (vConst (.int 0)))) (vOp ixD (vVarC 4) (vConst (.int 0))) [4]) vlNil)) vlNil))))
  dNext))
  (dRetV 2)))

def sp__law_some_plan : DSp := fun as M => ∃ R : List Pk, as = [.bag, .d (regD R)] ∧ RgOk R ∧ ∀ L : Pl, PlOk R L → M (plD L)
theorem len__law_some_plan {as : List Ar} {M : Dt → Prop} (h : sp__law_some_plan as M) : as.length = P__law_some_plan.length := by obtain ⟨m, rfl, _⟩ := h; rfl
theorem perm_map {α β : Type} {f : α → β} {es : List β} {l : List α} (p : es.Perm (l.map f)) : ∃ S : List α, S.Perm l ∧ S.map f = es := by
  induction es generalizing l with
  | nil => exact ⟨[], by have := p.length_eq; rw [List.length_map] at this; rw [List.length_eq_zero_iff.mp this.symm], rfl⟩
  | cons y ys ih =>
    obtain ⟨e, he, rfl⟩ := List.mem_map.mp (p.mem_iff.mp List.mem_cons_self)
    obtain ⟨A, B, rfl⟩ := List.append_of_mem he
    have p2 : (A ++ e :: B).Perm (e :: (A ++ B)) := List.perm_middle
    have p3 := p.trans (p2.map f)
    rw [List.map_cons] at p3
    obtain ⟨S, h1, h2⟩ := ih p3.cons_inv
    exact ⟨e :: S, (List.Perm.cons e h1).trans p2.symm, by rw [List.map_cons, h2]⟩
theorem any_mem {α : Type} (L : List (PySem.Str × α)) (n : PySem.Str) : (L.any fun p => decide (p.1 = n)) = decide (n ∈ L.map (·.1)) := by
  rw [Bool.eq_iff_iff, List.any_eq_true, decide_eq_true_eq, List.mem_map]
  exact ⟨fun ⟨p, h, e⟩ => ⟨p, h, of_decide_eq_true e⟩, fun ⟨p, h, e⟩ => ⟨p, h, decide_eq_true e⟩⟩
theorem keysP_putA {α : Type} (L : List (PySem.Str × α)) (n : PySem.Str) (a : α) : keysP (L.map (·.1)) n = (putA L n a).map (·.1) := by
  rw [_root_.DK.putA_keys, any_mem]
  unfold keysP
  by_cases h : n ∈ L.map (·.1)
  · rw [if_pos h, if_pos (decide_eq_true h)]
  · rw [if_neg h, if_neg (by rw [decide_eq_false h]; exact Bool.noConfusion)]
theorem zipWith_maps {α : Type} {f : α → Dt} {n : PySem.Str} {d : Dt} (L : List (PySem.Str × α)) : List.zipWith (fun k0 d0 => if k0 = n then d else d0) (L.map (·.1)) (L.map fun p => f p.2) = L.map fun p => if p.1 = n then d else f p.2 := by
  induction L with
  | nil => rfl
  | cons p L ih => rw [List.map_cons, List.map_cons, List.zipWith_cons_cons, ih]; rfl
theorem valsP_putA {α : Type} (f : α → Dt) (L : List (PySem.Str × α)) (n : PySem.Str) (a : α) : valsP (L.map (·.1)) (L.map fun p => f p.2) n (f a) = (putA L n a).map fun p => f p.2 := by
  unfold valsP putA
  rw [any_mem]
  by_cases h : n ∈ L.map (·.1)
  · rw [if_pos h, if_pos (decide_eq_true h), zipWith_maps, List.map_map]
    refine List.map_congr_left fun p _ => ?_
    show (if p.1 = n then f a else f p.2) = f (if p.1 = n then (p.1, a) else p).2
    split <;> rfl
  · rw [if_neg h, if_neg (by rw [decide_eq_false h]; exact Bool.noConfusion), List.map_append]; rfl
theorem t__law_some_plan {as : List Ar} {M : Dt → Prop} (h : sp__law_some_plan as M) : T__law_some_plan { nx := fun _ => False, rt := M } (stEv N__law_some_plan as) := by
  obtain ⟨R, rfl, ok, q⟩ := h
  refine ⟨rfl, .tup (R.map pkD), rfl, R.map pkD, rfl, by rw [List.length_map]; have := ok.few; omega, fun es pe => ?_⟩
  obtain ⟨S, pS, rfl⟩ := perm_map pe
  refine ⟨fun i ρ => ∃ L x y, ρ = [some .bag, some (.d (regD R)), some (.own (plD L)), x, y] ∧ PlOk R L, ⟨[], _, _, rfl, ⟨fun e h => by (cases h), List.nodup_nil⟩⟩, ?_, ?_⟩
  · rintro i d ρ hd ⟨L, x, y, rfl, hL⟩
    obtain ⟨p, hp, rfl⟩ := mapAt hd
    have hpR : p ∈ R := pS.mem_iff.mp (List.mem_of_getElem? hp)
    have pk := ok.all p hpR
    refine ⟨rfl, 3, rfl, by decide, by decide, fun v v0 v1 => ?_⟩
    show if decide (0 < v) = true then _ else _
    split
    · have fin : ∀ b : Bool, ∃ L' x y', [some W.bag, some (.d (regD R)), some (.own (.dic (keysP (L.map (·.1)) p.nm) (valsP (L.map (·.1)) (L.map fun e => etD e.2) p.nm (etD (p.vs, b))))), some (.d (pkD p)), y] = [some .bag, some (.d (regD R)), some (.own (plD L')), x, y'] ∧ PlOk R L' := fun b =>
        ⟨putA L p.nm (p.vs, b), _, _, by rw [keysP_putA L p.nm (p.vs, b), valsP_putA etD L p.nm (p.vs, b)]; rfl, ⟨fun e he => by
          rcases _root_.DK.putA_mem he with z | z
          · exact hL.of e z
          · rw [z]; exact ⟨p, hpR, rfl, rfl⟩, _root_.DK.putA_nd hL.nd _ _⟩⟩
      have kl : (L.map (·.1)).length < sizeLine := by rw [List.length_map, slz]; have := hL.few ok; omega
      refine ⟨verD p.vs, rfl, ftD p.ft, rfl, ?_⟩
      cases hft : p.ft with
      | false =>
        refine ⟨fun i acc => acc = [], rfl, fun i d acc hd => by simp at hd, ?_⟩
        rintro acc rfl
        exact ⟨by show 2 ≤ _; rw [slz]; decide, _, rfl, kl, fin false⟩
      | true =>
        refine ⟨fun i acc => acc = [] ∨ acc = [.str "f"] ∧ 1 ≤ i, .inl rfl, ?_, ?_⟩
        · rintro i d acc hd w
          have i0 : i = 0 := by
            have := (List.getElem?_eq_some_iff.mp hd).1
            simp at this; omega
          subst i0
          cases hd
          rcases w with rfl | ⟨_, w⟩
          · refine ⟨rfl, 2, rfl, by decide, by decide, fun u u0 u1 => ?_⟩
            show if decide (u = 0) = true then _ else _
            split
            · exact ⟨_, rfl, by rw [slz]; decide, .inr ⟨rfl, by decide⟩⟩
            · exact .inl rfl
          · omega
        · rintro acc (rfl | ⟨rfl, _⟩)
          · exact ⟨by show 2 ≤ _; rw [slz]; decide, _, rfl, kl, fin false⟩
          · exact ⟨by show 2 ≤ _; rw [slz]; decide, _, rfl, kl, fin true⟩
    · exact ⟨L, _, _, rfl, hL⟩
  · rintro ρ ⟨L, x, y, rfl, hL⟩
    exact q L hL
/-! ### _law_small_packs -/
abbrev N__law_small_packs : List PySem.Str := ["bag", "odd", "packs", "name", "version", "some", "paths", "path", "files", "features"]
abbrev P__law_small_packs : List PySem.Str := ["bag"]
def T__law_small_packs : DS :=
  (dSeq (dSet 1 (vLst (vlCons (vConst (.str "")) (vlCons (vConst (.str "x")) (vlCons (vConst (.str "go")) (vlCons (vConst (.str "a\nb")) (vlCons (vConst (.str "x")) (vlCons (vConst (.str "log 0\nlock store/c0")) (vlCons (vConst (.str "entries 0\nlock -")) (vlCons (vConst (.str "lock app 1.0.0")) (vlCons (vConst (.str "yy")) vlNil)))))))))))
  (dSeq (dSetO 2 (vLst vlNil))
  (dSeq (dFor (viSeq (vLst (vlCons (vConst (.str "app")) (vlCons (vConst (.str "b")) (vlCons (vConst (.str "lib-x")) vlNil))))) (vName 3)
  (dFor (viSeq (vDef sp__law_versions (vaB 0 (vaD (vConst (.int 2)) vaNil)))) (vName 4)
  (dSeq (dSet 5 (vLst (vlCons (vVar 3) (vlCons (vOp addD (vVarC 3) (vConst (.str "/doc"))) (vlCons (vOp addD (vVarC 3) (vConst (.str "-x/y"))) (vlCons (vOp addD (vConst (.str "bin/")) (vVarC 3)) vlNil))))))
  (dSeq (dSet 6 (vLc (viSeq (vSl slD (vVarC 5) (vPart (vOp subD (vConst (.int 1)) (vDef sp__law_take (vaB 0 (vaD (vConst (.int 2)) vaNil))))) vNoPart)) (vName 7) (vOr (vBl (vOp neD (vVarC 7) (vVarC 3))) (vBl (vOp eqD (vDef sp__law_take (vaB 0 (vaD (vConst (.int 2)) vaNil))) (vConst (.int 0))))) (vVar 7) [7]))
  (dSeq (dSet 6 (vLc (viSeq (vVar 6)) (vName 7) (vOr (vBl (vOp neD (vVarC 7) (vOp addD (vVarC 3) (vConst (.str "/doc"))))) (vBl (vOp notInD (vVarC 3) (vVarC 6)))) (vVar 7) [7]))
  (dSeq (dSet 8 (vLc (viSeq (vCall sortedSD (vlCons (vVarC 6) vlNil))) (vName 7) vYes (vTup (vlCons (vVar 7) (vlCons (vDef sp__law_one (vaB 0 (vaD (vVar 1) vaNil))) vlNil))) [7]))
  (dSeq (dSet 9 (vIfE (vBl (vOp eqD (vDef sp__law_take (vaB 0 (vaD (vConst (.int 3)) vaNil))) (vConst (.int 0)))) (vTup (vlCons (vTup (vlCons (vConst (.str "f")) (vlCons (vTup vlNil) (vlCons (vTup vlNil) vlNil)))) vlNil)) (vTup vlNil)))
  (dMu 2 "list" appendD (vlCons (vTup (vlCons (vVar 3) (vlCons (vVar 4) (vlCons (vTup vlNil) (vlCons (vTup vlNil) (vlCons (vTup vlNil) (vlCons (vVar 9) (vlCons (vTup vlNil) (vlCons (vCall fupleD (vlCons (vVarC 8) vlNil)) vlNil))))))))) vlNil)))))))))
  (dRet (vTup (vlCons (vCall tupleFD (vlCons (vVarC 2) vlNil)) (vlCons (vTup vlNil) vlNil)))))))

def sp__law_small_packs : DSp := fun as M => as = [.bag] ∧ ∀ R : List Pk, RgOk R → M (regD R)
theorem len__law_small_packs {as : List Ar} {M : Dt → Prop} (h : sp__law_small_packs as M) : as.length = P__law_small_packs.length := by obtain ⟨rfl, _⟩ := h; rfl
/-- a comprehension that keeps some of these texts -/
def lcB (g : DG) (tt : DT) (te : DE) (vs : List Nat) (ρ : Ev) (M : List Dt → Prop) (ds : List Dt) : Prop := ∃ W : Nat → List Dt → Prop, W 0 [] ∧
  (∀ i d acc, ds[i]? = some d → W i acc → g d (wipeE ρ vs) fun ρ2 => tt ρ2 fun b => if b = true then te ρ2 fun y => acc.length < sizeLine ∧ W (i + 1) (acc ++ [y]) else W (i + 1) acc) ∧ ∀ acc, W ds.length acc → M acc
theorem subLc {xs : List PySem.Str} {tt : DT} {ρ : Ev} {k : Nat} {M : List Dt → Prop} (hk : k < ρ.length) (few : xs.length ≤ 1000)
    (h : ∀ x ∈ xs, ∀ N : Bool → Prop, N true → N false → tt (((wipeE ρ [k]).set k (some (.d (.str x))))) N) (q : ∀ ys : List PySem.Str, ys.Sublist xs → M (ys.map Dt.str)) :
    lcB (vName k) tt (vVar k) [k] ρ M (xs.map Dt.str) := by
  refine ⟨fun i acc => ∃ ys : List PySem.Str, acc = ys.map Dt.str ∧ ys.Sublist (xs.take i), ⟨[], rfl, List.nil_sublist _⟩, ?_, ?_⟩
  · rintro i d acc hd ⟨ys, rfl, hs⟩
    obtain ⟨x, hx, rfl⟩ := mapAt hd
    refine h x (List.mem_of_getElem? hx) _ ?_ ?_
    · have e : ((wipeE ρ [k]).set k (some (W.d (.str x))))[k]? = some (some (.d (.str x))) := by
        rw [List.getElem?_set_self (by rw [wipeE_len]; exact hk)]
      show vVar k ((wipeE ρ [k]).set k (some (W.d (.str x)))) _
      unfold vVar
      rw [e]
      refine ⟨?_, ys ++ [x], by rw [List.map_append]; rfl, ?_⟩
      · have := hs.length_le
        rw [List.length_take] at this
        rw [List.length_map, slz]; omega
      · rw [take_snoc hx]
        exact hs.append_right _
    · exact ⟨ys, rfl, hs.trans (by rw [take_snoc hx]; exact List.sublist_append_left _ _)⟩
  · rintro acc ⟨ys, rfl, hs⟩
    rw [List.length_map, List.take_length] at hs
    exact q ys hs
theorem subLcE {xs : List PySem.Str} {ds : List Dt} {tt : DT} {ρ : Ev} {k : Nat} {M : List Dt → Prop} (e : ds = xs.map Dt.str) (hk : k < ρ.length) (few : xs.length ≤ 1000)
    (h : ∀ x ∈ xs, ∀ N : Bool → Prop, N true → N false → tt (((wipeE ρ [k]).set k (some (.d (.str x))))) N) (q : ∀ ys : List PySem.Str, ys.Sublist xs → M (ys.map Dt.str)) :
    lcB (vName k) tt (vVar k) [k] ρ M ds := by subst e; exact subLc hk few h q
theorem cutL_map {α β : Type} (f : α → β) (xs : List α) (lo hi : Option Int) : cutL (xs.map f) lo hi = (cutL xs lo hi).map f := by
  unfold cutL
  rw [List.length_map, List.map_take, List.map_drop]
theorem cutL_sub {α : Type} (xs : List α) (lo hi : Option Int) : (cutL xs lo hi).Sublist xs := (List.take_sublist _ _).trans (List.drop_sublist _ _)
theorem pyAll_strs (xs : List PySem.Str) : pyAll (xs.map Dt.str) = xs.map PyData.str := by
  induction xs with
  | nil => rfl
  | cons x xs ih => show py (.str x) :: pyAll (xs.map Dt.str) = _; rw [ih]; rfl
theorem shp_strs {xs : List PySem.Str} (h : ∀ x ∈ xs, OkS x) : shp (.lst (xs.map Dt.str)) = true := by
  show SeqAt.shaped (.list (pyAll (xs.map Dt.str))) = true
  rw [pyAll_strs]
  exact shaped_txs h
theorem som_ok : ∀ n ∈ PNM, ∀ x ∈ somP n, (x.length ≤ 20 ∧ (tl x).all (fun c => decide (c < 0x110000)) = true) := by decide +kernel
theorem som_okS {n x : PySem.Str} (hn : n ∈ PNM) (hx : x ∈ somP n) : OkS x := fun c hc => of_decide_eq_true (List.all_eq_true.mp (som_ok n hn x hx).2 c hc)
theorem pnm_shp : ∀ n ∈ PNM, shp (.str n) = true ∧ n.length ≤ 10 := by decide +kernel
theorem som_nd : ∀ n ∈ PNM, (somP n).Nodup := by decide +kernel
theorem pnm_take {i : Nat} {n : PySem.Str} (h : PNM[i]? = some n) : n ∉ PNM.take i := by
  have hi : i < 3 := (List.getElem?_eq_some_iff.mp h).1
  match i, hi with
  | 0, _ => cases h; decide +kernel
  | 1, _ => cases h; decide +kernel
  | 2, _ => cases h; decide +kernel
theorem t__law_small_packs {as : List Ar} {M : Dt → Prop} (h : sp__law_small_packs as M) : T__law_small_packs { nx := fun _ => M .non, rt := M } (stEv N__law_small_packs as) := by
  obtain ⟨rfl, q⟩ := h
  refine ⟨by show 9 ≤ _; rw [slz]; decide, Nat.zero_le _, by show 3 ≤ _; rw [slz]; decide, ?_⟩
  refine ⟨fun i ρ => ∃ R a b c d e f g, ρ = [some .bag, some (.d (.lst (ODC.map Dt.str))), some (.own (.lst (List.map pkD R))), a, b, c, d, e, f, g] ∧ (∀ p ∈ R, PkOk p ∧ p.nm ∈ PNM.take i) ∧ R.length ≤ 2 * i ∧ (R.map fun p => (p.nm, p.vs)).Nodup,
    ⟨[], _, _, _, _, _, _, _, rfl, fun p h => by (cases h), by simp, List.nodup_nil⟩, ?_, ?_⟩
  · rintro i d ρ hd ⟨R, a, b, c, d2, e, f, g, rfl, ok, few, nd⟩
    obtain ⟨n, hn, rfl⟩ := mapAt (f := Dt.str) (l := PNM) hd
    have nP : n ∈ PNM := List.mem_of_getElem? hn
    have i3 : i < 3 := (List.getElem?_eq_some_iff.mp hn).1
    refine ⟨rfl, 2, rfl, by decide, by decide, fun vs hv ne l2 vd => ?_⟩
    refine ⟨fun j ρ => ∃ R1 b c d e f g, ρ = [some .bag, some (.d (.lst (ODC.map Dt.str))), some (.own (.lst (List.map pkD (R ++ R1)))), some (.d (.str n)), b, c, d, e, f, g] ∧ (∀ p ∈ R1, PkOk p) ∧ (R1.map fun p => (p.nm, p.vs)) = (vs.take j).map fun v => (n, v),
      ⟨[], _, _, _, _, _, _, by rw [List.append_nil]; rfl, fun p h => by (cases h), rfl⟩, ?_, ?_⟩
    · rintro j d ρ hd ⟨R1, b, c, d2, e, f, g, rfl, ok1, k1⟩
      obtain ⟨v, hv1, rfl⟩ := mapAt hd
      have vV := hv v (List.mem_of_getElem? hv1)
      have pn := pnm_shp n nP
      have l1 : ("/doc" : PySem.Str).length = 4 := by decide +kernel
      have l2 : ("-x/y" : PySem.Str).length = 4 := by decide +kernel
      have l3 : ("bin/" : PySem.Str).length = 4 := by decide +kernel
      refine ⟨by rw [l1, slz]; omega, by rw [l2, slz]; omega, by rw [l3, slz]; omega, by show 4 ≤ _; rw [slz]; decide, ?_⟩
      refine ⟨rfl, 2, rfl, by decide, by decide, fun u u0 u1 => ?_⟩
      have e1 : [Dt.str n, Dt.str (n ++ "/doc"), Dt.str (n ++ "-x/y"), Dt.str ("bin/" ++ n)] = (somP n).map Dt.str := rfl
      have sx := cutL_sub (somP n) (some (1 - u)) none
      have lx := sx.length_le
      have l4 : (somP n).length = 4 := rfl
      show lcB (vName 7) _ (vVar 7) [7] _ _ (cutL ((somP n).map Dt.str) (some (1 - u)) none)
      rw [cutL_map]
      refine subLc (by show 7 < 10; decide) (by omega) (fun x hx N n1 n0 => ?_) fun ys hys => ?_
      · show if (!decide (x = n)) = true then N true else _
        split
        · exact n1
        · refine ⟨rfl, 2, rfl, by decide, by decide, fun u u0 u1 => ?_⟩
          show N (decide (u = 0))
          cases decide (u = 0)
          · exact n0
          · exact n1
      · have sy := hys.trans sx
        have ly := sy.length_le
        refine subLc (by show 7 < 10; decide) (by omega) (fun x hx N n1 n0 => ?_) fun zs hzs => ?_
        · refine ⟨by rw [l1, slz]; omega, ?_⟩
          show if (!decide (x = n ++ "/doc")) = true then N true else _
          split
          · exact n1
          · refine ⟨pn.1, shp_strs fun y hy => som_okS nP (sy.subset hy), ?_⟩
            show N (!_)
            cases ((pyAll (ys.map Dt.str)).any fun z => PyData.eqv z (py (.str n)))
            · exact n1
            · exact n0
        · have sz := hzs.trans sy
          have lz := sz.length_le
          refine ⟨zs, strsOf_map zs, by omega, fun ws pw so => ?_⟩
          have lw := pw.length_eq
          refine ⟨fun k acc => ∃ F : Fl, acc = F.map _root_.DK.cpD ∧ F.map (·.1) = ws.take k ∧ ∀ p ∈ F, p.2 ∈ ODC, ⟨[], rfl, rfl, fun p h => by cases h⟩, ?_, ?_⟩
          · rintro k d acc hd ⟨F, rfl, kF, oF⟩
            obtain ⟨w, hw, rfl⟩ := mapAt hd
            refine ⟨rfl, ODC.map Dt.str, rfl, by decide, by decide, fun o ho => ?_⟩
            obtain ⟨o', ho', rfl⟩ := List.mem_map.mp ho
            have lF : F.length ≤ 4 := by have := congrArg List.length kF; rw [List.length_map, List.length_take] at this; omega
            refine ⟨by show 2 ≤ _; rw [slz]; decide, by rw [List.length_map, slz]; omega, F ++ [(w, o')], by rw [List.map_append]; rfl, by rw [List.map_append, kF, take_snoc hw]; rfl, fun p hp => ?_⟩
            rcases List.mem_append.mp hp with z | z
            · exact oF p z
            · rw [List.mem_singleton.mp z]; exact ho'
          · rintro acc ⟨F, rfl, kF, oF⟩
            rw [List.length_map, List.take_length] at kF
            refine ⟨rfl, 3, rfl, by decide, by decide, fun t t0 t1 => ?_⟩
            have hz := (som_nd n nP)
            have wn : ws.Nodup := pw.nodup_iff.mpr (sz.nodup hz)
            have fin : ∀ b : Bool, PkOk ⟨n, v, b, F⟩ := fun b => ⟨nP, vV, ⟨by rw [kF]; exact wn, fun c hc => ⟨sz.subset (pw.mem_iff.mp (kF ▸ List.mem_map.mpr ⟨c, hc, rfl⟩)), oF c hc⟩⟩, by
              have := congrArg List.length kF
              rw [List.length_map] at this
              show F.length ≤ 4
              omega⟩
            have ll : R1.length ≤ 5 := by have := congrArg List.length k1; rw [List.length_map, List.length_map, List.length_take] at this; omega
            have lR : (List.map pkD (R ++ R1)).length < sizeLine := by rw [List.length_map, List.length_append, slz]; omega
            have app : ∀ b : Bool, ∀ x : Dt, x = pkD ⟨n, v, b, F⟩ → List.map pkD (R ++ R1) ++ [x] = List.map pkD (R ++ (R1 ++ [⟨n, v, b, F⟩])) := fun b x e => by rw [e]; simp [List.map_append]
            have key : ∀ b : Bool, ((R1 ++ [(⟨n, v, b, F⟩ : Pk)]).map fun p => (p.nm, p.vs)) = (vs.take (j + 1)).map fun v => (n, v) := fun b => by rw [List.map_append, k1, take_snoc hv1, List.map_append]; rfl
            have okk : ∀ b : Bool, ∀ p ∈ R1 ++ [(⟨n, v, b, F⟩ : Pk)], PkOk p := fun b p hp => by
              rcases List.mem_append.mp hp with z | z
              · exact ok1 p z
              · rw [List.mem_singleton.mp z]; exact fin b
            show if decide (t = 0) = true then _ else _
            split
            · refine ⟨Nat.zero_le _, Nat.zero_le _, by show 3 ≤ _; rw [slz]; decide, by show 1 ≤ _; rw [slz]; decide, ?_⟩
              exact ⟨rfl, Nat.zero_le _, Nat.zero_le _, Nat.zero_le _, Nat.zero_le _, by show 8 ≤ _; rw [slz]; decide, lR, R1 ++ [⟨n, v, true, F⟩], _, _, _, _, _, _, by rw [← app true _ rfl]; rfl, okk true, key true⟩
            · refine ⟨Nat.zero_le _, ?_⟩
              exact ⟨rfl, Nat.zero_le _, Nat.zero_le _, Nat.zero_le _, Nat.zero_le _, by show 8 ≤ _; rw [slz]; decide, lR, R1 ++ [⟨n, v, false, F⟩], _, _, _, _, _, _, by rw [← app false _ rfl]; rfl, okk false, key false⟩
    · rintro ρ ⟨R1, b, c, d2, e, f, g, rfl, ok1, k1⟩
      rw [List.length_map, List.take_length] at k1
      have nm1 : ∀ p ∈ R1, p.nm = n ∧ p.vs ∈ vs := fun p hp => by
        have : (p.nm, p.vs) ∈ vs.map fun v => (n, v) := k1 ▸ List.mem_map.mpr ⟨p, hp, rfl⟩
        obtain ⟨v, h1, h2⟩ := List.mem_map.mp this
        cases h2
        exact ⟨rfl, h1⟩
      have l1 : R1.length = vs.length := by have := congrArg List.length k1; simpa using this
      refine ⟨R ++ R1, _, _, _, _, _, _, _, rfl, fun p hp => ?_, by rw [List.length_append]; omega, ?_⟩
      · rcases List.mem_append.mp hp with z | z
        · refine ⟨(ok p z).1, ?_⟩
          rw [take_snoc hn]
          exact List.mem_append_left _ (ok p z).2
        · refine ⟨ok1 p z, ?_⟩
          rw [take_snoc hn, (nm1 p z).1]
          exact List.mem_append_right _ List.mem_cons_self
      · rw [List.map_append, k1]
        refine List.nodup_append.mpr ⟨nd, List.Pairwise.map _ (fun a b hab e => hab (Prod.mk.inj e).2) vd, fun x hx y hy e => ?_⟩
        obtain ⟨p, hp, rfl⟩ := List.mem_map.mp hx
        obtain ⟨v, hv', rfl⟩ := List.mem_map.mp hy
        have en : p.nm = n := (Prod.mk.inj e).1
        have := (ok p hp).2
        rw [en] at this
        have nn := pnm_take hn
        exact nn this
  · rintro ρ ⟨R, a, b, c, d2, e, f, g, rfl, ok, few, nd⟩
    have few' : R.length ≤ 2 * 3 := few
    refine ⟨Nat.zero_le _, by show 2 ≤ _; rw [slz]; decide, ?_⟩
    exact q R ⟨fun p hp => (ok p hp).1, by omega, nd⟩
end VL
/-! Drawn logs, drawn files: by data. -/
namespace VL
open PySem PySem.Spec PyProof.Rows L2 TL RX
open _root_.DK (Fl Vs verD Pl plD etD PlOk Pk regD RgOk PkOk pkD ftD PNM ODC somP putA fsD FsOk Tm tmS_of KEYS SHL DPA num numsF ShP Lg logD logT GOk CTS putF getF)
/-! ### _law_drawn_log -/
abbrev N__law_drawn_log : List PySem.Str := ["bag", "files", "shelves", "number", "paths", "steps", "turn", "path", "text"]
abbrev P__law_drawn_log : List PySem.Str := ["bag", "files"]
def T__law_drawn_log : DS :=
  (dSeq (dSet 2 (vLc (viSeq (vDef sp__law_numbers (vaD (vVar 1) (vaD (vConst (.str "store/c")) vaNil)))) (vName 3) vYes (vOp addD (vConst (.str "store/c")) (vCall strFD (vlCons (vVarC 3) vlNil))) [3]))
  (dSeq (dSet 2 (vOp addD (vVarC 2) (vOp mulD (vLst (vlCons (vConst (.str "store/c77")) vlNil)) (vCall intFD (vlCons (vOp eqD (vDef sp__law_take (vaB 0 (vaD (vConst (.int 6)) vaNil))) (vConst (.int 0))) vlNil)))))
  (dSeq (dPar 4 5 false true (vLst (vlCons (vConst (.str "app")) (vlCons (vConst (.str "app/doc")) (vlCons (vConst (.str "bin/b")) (vlCons (vConst (.str "old")) (vlCons (vConst (.str "z/z")) vlNil)))))) (vLst vlNil))
  (dSeq (dFor (viRange1 (vlCons (vIfE (vBl (vOp neD (vVarC 2) (vLst vlNil))) (vDef sp__law_take (vaB 0 (vaD (vConst (.int 4)) vaNil))) (vConst (.int 0))) vlNil)) (vName 6)
  (dSeq (dSet 7 (vDef sp__law_one (vaB 0 (vaD (vVar 4) vaNil))))
  (dMu 5 "list" appendD (vlCons (vIfE (vBl (vOp eqD (vDef sp__law_take (vaB 0 (vaD (vConst (.int 3)) vaNil))) (vConst (.int 0)))) (vTup (vlCons (vConst (.str "drop")) (vlCons (vVar 7) vlNil))) (vTup (vlCons (vConst (.str "put")) (vlCons (vVar 7) (vlCons (vDef sp__law_one (vaB 0 (vaD (vVar 2) vaNil))) vlNil))))) vlNil))))
  (dSeq (dSet 8 (vDef sp__law_log_text (vaD (vTup (vlCons (vCall tupleFD (vlCons (vVarC 5) vlNil)) (vlCons (vDef sp__law_one (vaB 0 (vaD (vOp addD (vVarC 2) (vOp mulD (vLst (vlCons (vConst (.str "store/c0")) vlNil)) (vCall intFD (vlCons (vOp eqD (vVarC 2) (vLst vlNil)) vlNil)))) vaNil))) vlNil))) vaNil)))
  (dRet (vIfE (vBl (vOp gtD (vDef sp__law_take (vaB 0 (vaD (vConst (.int 4)) vaNil))) (vConst (.int 0)))) (vVar 8) (vOp addD (vSl slD (vVarC 8) vNoPart (vPart (vDef sp__law_take (vaB 0 (vaD (vOp addD (vCall lenD (vlCons (vVarC 8) vlNil)) (vConst (.int 1))) vaNil))))) (vDef sp__law_one (vaB 0 (vaD (vLst (vlCons (vConst (.str "")) (vlCons (vConst (.str "x")) (vlCons (vConst (.str "\n")) vlNil)))) vaNil)))))))))))

def sp__law_drawn_log : DSp := fun as M => ∃ F : Fl, as = [.bag, .d (fsD F)] ∧ FsOk F ∧ ∀ t : PySem.Str, Tm 500 450 t → M (.str t)
theorem len__law_drawn_log {as : List Ar} {M : Dt → Prop} (h : sp__law_drawn_log as M) : as.length = P__law_drawn_log.length := by obtain ⟨m, rfl, _⟩ := h; rfl
theorem iteN {c : Prop} [Decidable c] {a b : Prop} (h : ¬ c) (k : b) : if c then a else b := by rw [if_neg h]; exact k
theorem iteP {c : Prop} [Decidable c] {a b : Prop} (h : c) (k : a) : if c then a else b := by rw [if_pos h]; exact k
theorem rep_mem {x : PySem.Str} {k : Nat} {d : Dt} (h : d ∈ (List.replicate k [Dt.str x]).flatten) : d = .str x := by
  obtain ⟨l, h1, h2⟩ := List.mem_flatten.mp h
  rw [(List.mem_replicate.mp h1).2] at h2
  exact List.mem_singleton.mp h2
theorem rep_len {x : PySem.Str} {k : Nat} : ((List.replicate k [Dt.str x]).flatten).length = k := by simp
theorem t__law_drawn_log {as : List Ar} {M : Dt → Prop} (h : sp__law_drawn_log as M) : T__law_drawn_log { nx := fun _ => M .non, rt := M } (stEv N__law_drawn_log as) := by
  obtain ⟨F, rfl, ok, q⟩ := h
  have k7 : ("store/c" : PySem.Str).length = 7 := by decide +kernel
  refine ⟨"store/c", F, rfl, by have := ok.few; omega, by rw [k7]; decide, fun p hp => ?_, fun ms pm _ => ?_⟩
  · have := (tmS_of (_root_.DK.keys_ok p.1 (ok.k p hp))).len
    omega
  have m5 : ∀ n ∈ ms, n ∈ ([0, 1, 2, 3, 7] : List Int) := fun n hn => by
    obtain ⟨p, hp, e⟩ := List.mem_filterMap.mp (pm.mem_iff.mp hn)
    exact _root_.DK.keys_num p.1 (ok.k p hp) n e
  have lm : ms.length ≤ 29 := by
    rw [pm.length_eq]
    exact Nat.le_trans (List.length_filterMap_le _ _) ok.few
  refine ⟨fun i acc => acc = (ms.take i).map fun n => Dt.str ("store/c" ++ num n), rfl, ?_, ?_⟩
  · rintro i d acc hd rfl
    obtain ⟨n, hn, rfl⟩ := mapAt hd
    have n5 := m5 n (List.mem_of_getElem? hn)
    have n7 : n.natAbs < 10 ^ 1 := (show ∀ n ∈ ([0, 1, 2, 3, 7] : List Int), n.natAbs < 10 ^ 1 by decide) n n5
    have l1 : (num n).length ≤ 1 := (show ∀ n ∈ ([0, 1, 2, 3, 7] : List Int), (num n).length ≤ 1 by decide +kernel) n n5
    refine ⟨_root_.DK.log_le (k := 1) n7 (by decide), ?_, ?_, by show _ = List.map _ (List.take (i + 1) ms); rw [take_snoc hn, List.map_append]; rfl⟩
    · have : (PySem.Str.ofString (toString n)).length ≤ 1 := l1
      rw [k7, slz]; omega
    · rw [List.length_map, List.length_take, slz]; omega
  rintro acc rfl
  rw [List.length_map, List.take_length]
  have hsh0 : ∀ d ∈ ms.map (fun n => Dt.str ("store/c" ++ num n)), ∃ x ∈ SHL, d = .str x := fun d hd => by
    obtain ⟨n, hn, rfl⟩ := List.mem_map.mp hd
    exact ⟨_, _root_.DK.shl_num n (m5 n hn), rfl⟩
  have lsh0 : (ms.map (fun n => Dt.str ("store/c" ++ num n))).length ≤ 29 := by rw [List.length_map]; exact lm
  generalize ms.map (fun n => Dt.str ("store/c" ++ num n)) = s0 at hsh0 lsh0 ⊢
  refine ⟨by show 1 ≤ _; rw [slz]; decide, rfl, 6, rfl, by decide, by decide, fun v v0 v1 => ?_⟩
  have step : ∀ k : Int, 0 ≤ k → k ≤ 1 → ((-(2 ^ 63) ≤ k ∧ k < 2 ^ 63) ∧ ([Dt.str "store/c77"].length * k.toNat ≤ sizeLine) ∧ ((s0.length + ((List.replicate k.toNat [Dt.str "store/c77"]).flatten).length ≤ sizeLine) ∧ (∀ d ∈ s0 ++ (List.replicate k.toNat [Dt.str "store/c77"]).flatten, ∃ x ∈ SHL, d = .str x) ∧ (s0 ++ (List.replicate k.toNat [Dt.str "store/c77"]).flatten).length ≤ 30)) := fun k k0 k1 => by
    refine ⟨⟨by omega, by omega⟩, by rw [slz]; show 1 * _ ≤ _; omega, by rw [rep_len, slz]; omega, fun d hd => ?_, by rw [List.length_append, rep_len]; omega⟩
    rcases List.mem_append.mp hd with z | z
    · exact hsh0 d z
    · exact ⟨_, by decide, rep_mem z⟩
  obtain ⟨a1, a2, a3, a4, a5⟩ := step (if decide (v = 0) = true then 1 else 0) (by split <;> decide) (by split <;> decide)
  refine ⟨a1, a2, a3, ?_⟩
  generalize s0 ++ (List.replicate (if decide (v = 0) = true then (1 : Int) else 0).toNat [Dt.str "store/c77"]).flatten = sh at a4 a5 ⊢
  clear a1 a2 a3 step hsh0 lsh0 v0 v1
  refine ⟨by show 5 ≤ _; rw [slz]; decide, Nat.zero_le _, Nat.zero_le _, ?_⟩
  have loop : ∀ n : Nat, n ≤ 3 → (n ≠ 0 → sh ≠ []) → ∃ W : Nat → Ev → Prop, W 0 [some .bag, some (.d (fsD F)), some (.d (.lst sh)), none, some (.d (.lst (DPA.map Dt.str))), some (.own (.lst [])), none, none, none] ∧
      (∀ i d ρ, (rangeD 0 n)[i]? = some d → W i ρ → (vName 6) d ρ fun ρ2 => (dSeq (dSet 7 (vDef sp__law_one (vaB 0 (vaD (vVar 4) vaNil)))) (dMu 5 "list" appendD (vlCons (vIfE (vBl (vOp eqD (vDef sp__law_take (vaB 0 (vaD (vConst (.int 3)) vaNil))) (vConst (.int 0)))) (vTup (vlCons (vConst (.str "drop")) (vlCons (vVar 7) vlNil))) (vTup (vlCons (vConst (.str "put")) (vlCons (vVar 7) (vlCons (vDef sp__law_one (vaB 0 (vaD (vVar 2) vaNil))) vlNil))))) vlNil))) { nx := W (i + 1), rt := M, ct := W (i + 1), bk := fun _ => False } ρ2) ∧
      ∀ ρ, W n ρ → ∃ (G : List (List PySem.Str)) (x y : Option VL.W), ρ = [some .bag, some (.d (fsD F)), some (.d (.lst sh)), none, some (.d (.lst (DPA.map Dt.str))), some (.own (.lst (G.map _root_.DK.wordsD))), x, y, none] ∧ G.length ≤ 3 ∧ ∀ ws ∈ G, ws.length ≤ 3 ∧ ∀ x ∈ ws, Tm 10 3 x := fun n n3 hne => by
    refine ⟨fun i ρ => ∃ (G : List (List PySem.Str)) (x y : Option VL.W), ρ = [some .bag, some (.d (fsD F)), some (.d (.lst sh)), none, some (.d (.lst (DPA.map Dt.str))), some (.own (.lst (G.map _root_.DK.wordsD))), x, y, none] ∧ G.length = i ∧ ∀ ws ∈ G, ws.length ≤ 3 ∧ ∀ x ∈ ws, Tm 10 3 x,
      ⟨[], _, _, rfl, rfl, fun ws h => by cases h⟩, ?_, fun ρ ⟨G, x, y, e, l, h⟩ => ⟨G, x, y, e, by omega, h⟩⟩
    rintro i d ρ hd ⟨G, x, y, rfl, l, hG⟩
    have lt := (range_at hd).1
    refine ⟨rfl, DPA.map Dt.str, rfl, by decide, by decide, fun p hp => ?_⟩
    obtain ⟨p', hp', rfl⟩ := List.mem_map.mp hp
    have tp := tmS_of (_root_.DK.dpa_tm p' hp')
    have lG : (G.map _root_.DK.wordsD).length < sizeLine := by rw [List.length_map, slz]; omega
    refine ⟨rfl, rfl, 3, rfl, by decide, by decide, fun u u0 u1 => ?_⟩
    show if decide (u = 0) = true then _ else _
    split
    · refine ⟨by show 2 ≤ _; rw [slz]; decide, lG, G ++ [[("drop" : PySem.Str), p']], _, _, by rw [List.map_append]; rfl, by rw [List.length_append, l]; rfl, fun ws hw => ?_⟩
      rcases List.mem_append.mp hw with z | z
      · exact hG ws z
      · rw [List.mem_singleton.mp z]
        refine ⟨by simp, fun x hx => ?_⟩
        simp only [List.mem_cons, List.not_mem_nil, or_false] at hx
        rcases hx with rfl | rfl
        · exact tmS_of (by decide +kernel)
        · exact tp
    · refine ⟨rfl, sh, rfl, hne (by omega), by omega, fun s hs => ?_⟩
      obtain ⟨s', hs', rfl⟩ := a4 s hs
      have ts := tmS_of (_root_.DK.shl_tm s' hs')
      refine ⟨by show 3 ≤ _; rw [slz]; decide, lG, G ++ [[("put" : PySem.Str), p', s']], _, _, by rw [List.map_append]; rfl, by rw [List.length_append, l]; rfl, fun ws hw => ?_⟩
      rcases List.mem_append.mp hw with z | z
      · exact hG ws z
      · rw [List.mem_singleton.mp z]
        refine ⟨by simp, fun x hx => ?_⟩
        simp only [List.mem_cons, List.not_mem_nil, or_false] at hx
        rcases hx with rfl | rfl | rfl
        · exact tmS_of (by decide +kernel)
        · exact tp
        · exact ts
  have tail : ∀ ρ, (∃ (G : List (List PySem.Str)) (x y : Option VL.W), ρ = [some .bag, some (.d (fsD F)), some (.d (.lst sh)), none, some (.d (.lst (DPA.map Dt.str))), some (.own (.lst (G.map _root_.DK.wordsD))), x, y, none] ∧ G.length ≤ 3 ∧ ∀ ws ∈ G, ws.length ≤ 3 ∧ ∀ x ∈ ws, Tm 10 3 x) →
      (dSeq (dSet 8 (vDef sp__law_log_text (vaD (vTup (vlCons (vCall tupleFD (vlCons (vVarC 5) vlNil)) (vlCons (vDef sp__law_one (vaB 0 (vaD (vOp addD (vVarC 2) (vOp mulD (vLst (vlCons (vConst (.str "store/c0")) vlNil)) (vCall intFD (vlCons (vOp eqD (vVarC 2) (vLst vlNil)) vlNil)))) vaNil))) vlNil))) vaNil)))
  (dRet (vIfE (vBl (vOp gtD (vDef sp__law_take (vaB 0 (vaD (vConst (.int 4)) vaNil))) (vConst (.int 0)))) (vVar 8) (vOp addD (vSl slD (vVarC 8) vNoPart (vPart (vDef sp__law_take (vaB 0 (vaD (vOp addD (vCall lenD (vlCons (vVarC 8) vlNil)) (vConst (.int 1))) vaNil))))) (vDef sp__law_one (vaB 0 (vaD (vLst (vlCons (vConst (.str "")) (vlCons (vConst (.str "x")) (vlCons (vConst (.str "\n")) vlNil)))) vaNil))))))) { nx := fun _ => M .non, rt := M } ρ := by
    rintro ρ ⟨G, x, y, rfl, l, hG⟩
    have c0 : Tm 10 3 "store/c0" := tmS_of (by decide +kernel)
    have pick : ∀ d ∈ sh ++ (List.replicate (if sh.isEmpty = true then (1 : Int) else 0).toNat [Dt.str "store/c0"]).flatten, ∃ x, Tm 10 3 x ∧ d = .str x := fun d hd => by
      rcases List.mem_append.mp hd with z | z
      · obtain ⟨x, hx, e⟩ := a4 d z
        exact ⟨x, tmS_of (_root_.DK.shl_tm x hx), e⟩
      · exact ⟨_, c0, rep_mem z⟩
    have ne : sh ++ (List.replicate (if sh.isEmpty = true then (1 : Int) else 0).toNat [Dt.str "store/c0"]).flatten ≠ [] := by
      by_cases e : sh = []
      · rw [e]; decide
      · intro z; exact e (List.append_eq_nil_iff.mp z).1
    have ln : (sh ++ (List.replicate (if sh.isEmpty = true then (1 : Int) else 0).toNat [Dt.str "store/c0"]).flatten).length ≤ 31 := by
      rw [List.length_append, rep_len]
      split <;> (simp only [Int.toNat_one, Int.toNat_zero]; omega)
    refine ⟨rfl, by show 1 ≤ _; rw [slz]; decide, Nat.zero_le _, ?_⟩
    refine ⟨by split <;> decide, by rw [slz]; split <;> decide, by rw [List.length_append] at ln; rw [slz]; omega, _, rfl, ne, by omega, fun s hs => ?_⟩
    obtain ⟨s', ts, rfl⟩ := pick s hs
    obtain ⟨tg, gg⟩ := _root_.DK.log_tm3 (g := (G, s')) hG ts l
    refine ⟨by show 2 ≤ _; rw [slz]; decide, (G, s'), rfl, gg, ?_⟩
    have tl250 := tg.len
    generalize logT (G, s') = t at tg tl250 ⊢
    refine ⟨rfl, 4, rfl, by decide, by decide, fun u u0 u1 => ?_⟩
    show if decide (0 < u) = true then _ else _
    split
    · exact q t (tg.up (by decide) (by decide))
    · refine ⟨rfl, by rw [slz]; omega, _, rfl, by omega, by omega, fun w w0 w1 => ⟨by rw [slz]; omega, rfl, by show 3 ≤ _; rw [slz]; decide, [.str "", .str "x", .str "\n"], rfl, by decide, by decide, fun o ho => ?_⟩⟩
      obtain ⟨o', to, rfl⟩ : ∃ o', Tm 1 1 o' ∧ o = .str o' := by
        simp only [List.mem_cons, List.not_mem_nil, or_false] at ho
        rcases ho with e | e | e <;> exact ⟨_, tmS_of (by decide +kernel), e⟩
      have tc := tg.cut none (some w)
      have ta := tc.app to
      refine ⟨?_, q _ (ta.up (by decide) (by decide))⟩
      have := ta.len
      rw [strLen_append] at this
      rw [slz]; omega
  show if (!sh.isEmpty) = true then _ else _
  by_cases e : sh = []
  · refine iteN (c := (!sh.isEmpty) = true) (by rw [e]; decide) ?_
    obtain ⟨W, w0, wt, we⟩ := loop 0 (by omega) (fun z => absurd rfl z)
    exact ⟨⟨by decide, by decide⟩, W, w0, wt, fun ρ w => tail ρ (we ρ w)⟩
  · refine iteP (c := (!sh.isEmpty) = true) (by cases sh with | nil => exact absurd rfl e | cons _ _ => rfl) ?_
    refine ⟨rfl, 4, rfl, by decide, by decide, fun u u0 u1 => ?_⟩
    obtain ⟨W, w0, wt, we⟩ := loop u.toNat (by omega) (fun _ => e)
    exact ⟨⟨by omega, by omega⟩, W, w0, wt, fun ρ w => tail ρ (we ρ (by rw [range_len] at w; exact w))⟩
/-! ### _law_drawn_files -/
abbrev N__law_drawn_files : List PySem.Str := ["bag", "registry", "contents", "found", "pack", "path", "content", "number"]
abbrev P__law_drawn_files : List PySem.Str := ["bag", "registry"]
def T__law_drawn_files : DS :=
  (dSeq (dPar 2 3 false true (vLst (vlCons (vConst (.str "")) (vlCons (vConst (.str "x")) (vlCons (vConst (.str "go")) (vlCons (vConst (.str "a\nb")) (vlCons (vConst (.str "before")) (vlCons (vConst (.str "x")) (vlCons (vConst (.str "yy")) vlNil)))))))) vNewD)
  (dSeq (dFor (viSeq (vOp ixD (vVarC 1) (vConst (.int 0)))) (vName 4)
  (dFor (viSeq (vOp ixD (vVarC 4) (vConst (.int 7)))) (vgTup 2 (vgCons (vName 5) (vgCons (vName 6) vgNil)))
  (dIf (vBl (vOp eqD (vDef sp__law_take (vaB 0 (vaD (vConst (.int 2)) vaNil))) (vConst (.int 0))))
  (dPut 3 (vOp addD (vConst (.str "tree/")) (vVarC 5)) (vIfE (vBl (vOp gtD (vDef sp__law_take (vaB 0 (vaD (vConst (.int 3)) vaNil))) (vConst (.int 0)))) (vVar 6) (vDef sp__law_one (vaB 0 (vaD (vVar 2) vaNil)))))
  dNext)))
  (dSeq (dFor (viSeq (vLst (vlCons (vConst (.str "tree/old")) (vlCons (vConst (.str "tree/z/z")) (vlCons (vConst (.str "mine")) (vlCons (vConst (.str "store/new")) (vlCons (vConst (.str "store/c01")) (vlCons (vConst (.str "store/c-1")) (vlCons (vConst (.str "gen/new")) (vlCons (vConst (.str "gen")) (vlCons (vConst (.str "tree")) vlNil))))))))))) (vName 5)
  (dIf (vBl (vOp eqD (vDef sp__law_take (vaB 0 (vaD (vConst (.int 5)) vaNil))) (vConst (.int 0))))
  (dPut 3 (vVar 5) (vDef sp__law_one (vaB 0 (vaD (vVar 2) vaNil))))
  dNext))
  (dSeq (dFor (viSeq (vSl slD (vDef sp__law_mixed (vaB 0 (vaD (vLst (vlCons (vConst (.int 0)) (vlCons (vConst (.int 1)) (vlCons (vConst (.int 2)) (vlCons (vConst (.int 3)) (vlCons (vConst (.int 7)) vlNil)))))) vaNil))) vNoPart (vPart (vDef sp__law_take (vaB 0 (vaD (vConst (.int 5)) vaNil)))))) (vName 7)
  (dPut 3 (vOp addD (vConst (.str "store/c")) (vCall strFD (vlCons (vVarC 7) vlNil))) (vDef sp__law_one (vaB 0 (vaD (vOp addD (vVarC 2) (vLst (vlCons (vDef sp__law_lock_text (vaD (vDef sp__law_some_plan (vaB 0 (vaD (vVar 1) vaNil))) vaNil)) vlNil))) vaNil)))))
  (dCut (dIf (vBl (vOp gtD (vDef sp__law_take (vaB 0 (vaD (vConst (.int 3)) vaNil))) (vConst (.int 0))))
  (dPut 3 (vConst (.str "lock")) (vDef sp__law_one (vaB 0 (vaD (vLst (vlCons (vConst (.str "before")) (vlCons (vDef sp__law_lock_text (vaD (vDef sp__law_some_plan (vaB 0 (vaD (vVar 1) vaNil))) vaNil)) vlNil))) vaNil))))
  dNext)
  (dCut (dIf (vBl (vOp eqD (vDef sp__law_take (vaB 0 (vaD (vConst (.int 3)) vaNil))) (vConst (.int 0))))
  (dPut 3 (vConst (.str "log")) (vTmp 3 (vDef sp__law_drawn_log (vaB 0 (vaD (vVar 3) vaNil)))))
  dNext)
  (dCut (dIf (vBl (vOp eqD (vDef sp__law_take (vaB 0 (vaD (vConst (.int 5)) vaNil))) (vConst (.int 0))))
  (dPut 3 (vConst (.str "log-new")) (vDef sp__law_one (vaB 0 (vaD (vLst (vlCons (vConst (.str "")) (vlCons (vConst (.str "log 0")) (vlCons (vTmp 3 (vDef sp__law_drawn_log (vaB 0 (vaD (vVar 3) vaNil)))) vlNil)))) vaNil))))
  dNext)
  (dRet (vCall pairsD (vlCons (vDef sp__law_mixed (vaB 0 (vaD (vItems (vVarC 3)) vaNil))) vlNil))))))))))

def sp__law_drawn_files : DSp := fun as M => ∃ R : List Pk, as = [.bag, .d (regD R)] ∧ RgOk R ∧ ∀ F : Fl, FsOk F → M (fsD F)
theorem len__law_drawn_files {as : List Ar} {M : Dt → Prop} (h : sp__law_drawn_files as M) : as.length = P__law_drawn_files.length := by obtain ⟨m, rfl, _⟩ := h; rfl
theorem fsD_put (F : Fl) (x c : PySem.Str) : Dt.dic (keysP (F.map (·.1)) x) (valsP (F.map (·.1)) (F.map fun p => Dt.str p.2) x (.str c)) = fsD (putF F x c) := by
  have e1 := keysP_putA F x c
  have e2 := valsP_putA Dt.str F x c
  rw [e1, e2]; rfl
theorem items_fs (F : Fl) : itemsOf (F.map (·.1)) (F.map fun p => Dt.str p.2) = F.map _root_.DK.cpD := by
  induction F with
  | nil => rfl
  | cons p F ih => unfold itemsOf at ih ⊢; rw [List.map_cons, List.map_cons, List.map_cons, List.zipWith_cons_cons, ih]; rfl
theorem FsOk.perm {F G : Fl} (h : FsOk F) (p : G.Perm F) : FsOk G := ⟨fun q hq => h.k q (p.mem_iff.mp hq), fun q hq => h.c q (p.mem_iff.mp hq), (p.map _).nodup_iff.mpr h.nd⟩
theorem PlOk.names {R : List Pk} {L : Pl} (h : PlOk R L) (hR : RgOk R) : ∀ e ∈ L, e.1 ∈ PNM ∧ Vs e.2.1 := fun e he => by
  obtain ⟨p, hp, e1, e2⟩ := h.of e he
  exact ⟨by rw [e1]; exact (hR.all p hp).nm, by rw [e2]; exact (hR.all p hp).vs⟩
theorem t__law_drawn_files {as : List Ar} {M : Dt → Prop} (h : sp__law_drawn_files as M) : T__law_drawn_files { nx := fun _ => False, rt := M } (stEv N__law_drawn_files as) := by
  obtain ⟨R, rfl, ok, q⟩ := h
  refine ⟨by show 7 ≤ _; rw [slz]; decide, ?_⟩
  have fk : ∀ F : Fl, FsOk F → (F.map (·.1)).length < sizeLine := fun F h => by rw [List.length_map, slz]; have := h.few; omega
  have cts : ∀ d ∈ CTS.map Dt.str, ∃ x, Tm 500 450 x ∧ d = .str x := fun d hd => by
    obtain ⟨x, hx, rfl⟩ := List.mem_map.mp hd
    exact ⟨x, tmS_of (_root_.DK.cts_tm x hx), rfl⟩
  have ctl : ∀ t : PySem.Str, Tm 500 450 t → ∀ d ∈ CTS.map Dt.str ++ [.str t], ∃ x, Tm 500 450 x ∧ d = .str x := fun t ht d hd => by
    rcases List.mem_append.mp hd with z | z
    · exact cts d z
    · exact ⟨t, ht, List.mem_singleton.mp z⟩
  let Inv : Ev → Prop := fun ρ => ∃ (F : Fl) (a b c d : Option VL.W), ρ = [some .bag, some (.d (regD R)), some (.d (.lst (CTS.map Dt.str))), some (.own (fsD F)), a, b, c, d] ∧ FsOk F
  have put : ∀ (F : Fl) (a b c d : Option VL.W) (x y : PySem.Str), FsOk F → x ∈ KEYS → Tm 500 450 y → Inv [some .bag, some (.d (regD R)), some (.d (.lst (CTS.map Dt.str))), some (.own (.dic (keysP (F.map (·.1)) x) (valsP (F.map (·.1)) (F.map fun p => Dt.str p.2) x (.str y)))), a, b, c, d] := fun F a b c d x y h hx hy =>
    ⟨putF F x y, a, b, c, d, by rw [fsD_put], h.put hx hy⟩
  refine ⟨.tup (R.map pkD), rfl, fun _ => Inv, ⟨[], _, _, _, _, rfl, _root_.DK.FsOk.nil⟩, ?_, ?_⟩
  · rintro i d ρ hd ⟨F, a, b, c, d2, rfl, hF⟩
    obtain ⟨p, hp, rfl⟩ := mapAt hd
    have pk := ok.all p (List.mem_of_getElem? hp)
    refine ⟨.fup (p.fs.map _root_.DK.cpD), rfl, fun _ ρ => ∃ (F : Fl) (b c d : Option VL.W), ρ = [some .bag, some (.d (regD R)), some (.d (.lst (CTS.map Dt.str))), some (.own (fsD F)), some (.d (pkD p)), b, c, d] ∧ FsOk F, ⟨F, _, _, _, rfl, hF⟩, ?_, ?_⟩
    · rintro j d ρ hd ⟨F, b, c, d2, rfl, hF⟩
      obtain ⟨e, he, rfl⟩ := mapAt hd
      obtain ⟨e1, e2⟩ := pk.pt.2 e (List.mem_of_getElem? he)
      have el := (som_ok p.nm pk.nm e.1 e1).1
      have kk := _root_.DK.ktr_mem pk.nm e1
      have l5 : ("tree/" : PySem.Str).length = 5 := by decide +kernel
      have put' : ∀ (y : PySem.Str), Tm 500 450 y → ∃ (F' : Fl) (b c d : Option VL.W), [some VL.W.bag, some (.d (regD R)), some (.d (.lst (CTS.map Dt.str))), some (.own (.dic (keysP (F.map (·.1)) ("tree/" ++ e.1)) (valsP (F.map (·.1)) (F.map fun p => Dt.str p.2) ("tree/" ++ e.1) (.str y)))), some (.d (pkD p)), some (.d (.str e.1)), some (.d (.str e.2)), d2] = [some .bag, some (.d (regD R)), some (.d (.lst (CTS.map Dt.str))), some (.own (fsD F')), some (.d (pkD p)), b, c, d] ∧ FsOk F' := fun y hy =>
        ⟨putF F ("tree/" ++ e.1) y, _, _, _, by rw [fsD_put], hF.put kk hy⟩
      refine ⟨rfl, rfl, rfl, 2, rfl, by decide, by decide, fun u u0 u1 => ?_⟩
      show if decide (u = 0) = true then _ else _
      split
      · refine ⟨rfl, 3, rfl, by decide, by decide, fun v v0 v1 => ?_⟩
        show if decide (0 < v) = true then _ else _
        split
        · exact ⟨by rw [l5, slz]; omega, fk F hF, put' e.2 (tmS_of (_root_.DK.odc_tm e.2 e2))⟩
        · refine ⟨rfl, CTS.map Dt.str, rfl, by decide, by decide, fun o ho => ?_⟩
          obtain ⟨y, ty, rfl⟩ := cts o ho
          exact ⟨by rw [l5, slz]; omega, fk F hF, put' y ty⟩
      · exact ⟨F, _, _, _, rfl, hF⟩
    · rintro ρ ⟨F, b, c, d2, rfl, hF⟩
      exact ⟨F, _, _, _, _, rfl, hF⟩
  rintro ρ ⟨F, a, b, c, d2, rfl, hF⟩
  refine ⟨by show 9 ≤ _; rw [slz]; decide, fun _ => Inv, ⟨F, _, _, _, _, rfl, hF⟩, ?_, ?_⟩
  · rintro i d ρ hd ⟨F, a, b, c, d2, rfl, hF⟩
    obtain ⟨x, hx, rfl⟩ := mapAt (f := Dt.str) (l := _root_.DK.KOT) hd
    have kx := _root_.DK.kot_mem (List.mem_of_getElem? hx)
    refine ⟨rfl, 5, rfl, by decide, by decide, fun u u0 u1 => ?_⟩
    show if decide (u = 0) = true then _ else _
    split
    · refine ⟨rfl, CTS.map Dt.str, rfl, by decide, by decide, fun o ho => ?_⟩
      obtain ⟨y, ty, rfl⟩ := cts o ho
      exact ⟨fk F hF, put F _ _ _ _ x y hF kx ty⟩
    · exact ⟨F, _, _, _, _, rfl, hF⟩
  rintro ρ ⟨F, a, b, c, d2, rfl, hF⟩
  refine ⟨rfl, by show 5 ≤ _; rw [slz]; decide, [0, 1, 2, 3, 7].map Dt.int, rfl, by decide, fun es pe => ⟨rfl, 5, rfl, by decide, by decide, fun u u0 u1 => ?_⟩⟩
  obtain ⟨ns, pn, rfl⟩ := perm_map pe
  have lock : ∀ N : Dt → Prop, (∀ t, Tm 500 450 t → N (.str t)) → (vDef sp__law_lock_text (vaD (vDef sp__law_some_plan (vaB 0 (vaD (vVar 1) vaNil))) vaNil)) [some .bag, some (.d (regD R))] N := fun N hN =>
    ⟨rfl, R, rfl, ok, fun L hL => ⟨L, rfl, by have := hL.few ok; omega, hL.nd, PlOk.names hL ok, fun S pS _ => hN _ ((_root_.DK.lock_tm hL ok pS).up (by decide) (by decide))⟩⟩
  refine ⟨fun _ => Inv, ⟨F, _, _, _, _, rfl, hF⟩, ?_, ?_⟩
  · rintro i d ρ hd ⟨F, a, b, c, d2, rfl, hF⟩
    rw [cutL_map] at hd
    obtain ⟨n, hn, rfl⟩ := mapAt hd
    have n5 : n ∈ ([0, 1, 2, 3, 7] : List Int) := pn.mem_iff.mp ((cutL_sub ns none (some u)).subset (List.mem_of_getElem? hn))
    have n7 : n.natAbs < 10 ^ 1 := (show ∀ n ∈ ([0, 1, 2, 3, 7] : List Int), n.natAbs < 10 ^ 1 by decide) n n5
    have l1 : (num n).length ≤ 1 := (show ∀ n ∈ ([0, 1, 2, 3, 7] : List Int), (num n).length ≤ 1 by decide +kernel) n n5
    have k7 : ("store/c" : PySem.Str).length = 7 := by decide +kernel
    refine ⟨rfl, ?_⟩
    refine lock _ fun t ht => ⟨by show 1 ≤ _; rw [slz]; decide, by rw [slz]; show 7 + 1 ≤ _; decide, _, rfl, by simp, by show 8 ≤ _; decide, fun o ho => ?_⟩
    obtain ⟨y, ty, rfl⟩ := ctl t ht o ho
    refine ⟨_root_.DK.log_le (k := 1) n7 (by decide), by have : (PySem.Str.ofString (toString n)).length ≤ 1 := l1; rw [k7, slz]; omega, fk F hF, put F _ _ _ _ _ y hF (_root_.DK.ksh_num n n5) ty⟩
  rintro ρ ⟨F, a, b, c, d2, rfl, hF⟩
  refine ⟨Inv, ?_, ?_⟩
  · refine ⟨rfl, 3, rfl, by decide, by decide, fun u u0 u1 => ?_⟩
    show if decide (0 < u) = true then _ else _
    split
    · refine ⟨rfl, ?_⟩
      refine lock _ fun t ht => ⟨by show 2 ≤ _; rw [slz]; decide, _, rfl, by simp, by show 2 ≤ _; decide, fun o ho => ?_⟩
      obtain ⟨y, ty, rfl⟩ : ∃ y, Tm 500 450 y ∧ o = .str y := by
        simp only [List.mem_cons, List.not_mem_nil, or_false] at ho
        rcases ho with e | e
        · exact ⟨_, tmS_of (by decide +kernel), e⟩
        · exact ⟨_, ht, e⟩
      exact ⟨fk F hF, put F _ _ _ _ _ y hF (by decide +kernel) ty⟩
    · exact ⟨F, _, _, _, _, rfl, hF⟩
  rintro ρ ⟨F, a, b, c, d2, rfl, hF⟩
  refine ⟨Inv, ?_, ?_⟩
  · refine ⟨rfl, 3, rfl, by decide, by decide, fun u u0 u1 => ?_⟩
    show if decide (u = 0) = true then _ else _
    split
    · refine ⟨rfl, F, rfl, hF, fun t ht => ⟨rfl, fk F hF, put F _ _ _ _ _ t hF (by decide +kernel) ht⟩⟩
    · exact ⟨F, _, _, _, _, rfl, hF⟩
  rintro ρ ⟨F, a, b, c, d2, rfl, hF⟩
  refine ⟨Inv, ?_, ?_⟩
  · refine ⟨rfl, 5, rfl, by decide, by decide, fun u u0 u1 => ?_⟩
    show if decide (u = 0) = true then _ else _
    split
    · refine ⟨rfl, rfl, F, rfl, hF, fun t ht => ⟨rfl, by show 3 ≤ _; rw [slz]; decide, _, rfl, by simp, by show 3 ≤ _; decide, fun o ho => ?_⟩⟩
      obtain ⟨y, ty, rfl⟩ : ∃ y, Tm 500 450 y ∧ o = .str y := by
        simp only [List.mem_cons, List.not_mem_nil, or_false] at ho
        rcases ho with e | e | e
        · exact ⟨_, tmS_of (by decide +kernel), e⟩
        · exact ⟨_, tmS_of (by decide +kernel), e⟩
        · exact ⟨_, ht, e⟩
      exact ⟨fk F hF, put F _ _ _ _ _ y hF (by decide +kernel) ty⟩
    · exact ⟨F, _, _, _, _, rfl, hF⟩
  rintro ρ ⟨F, a, b, c, d2, rfl, hF⟩
  refine ⟨rfl, F.map _root_.DK.cpD, ?_, by rw [List.length_map]; have := hF.few; omega, fun es pe => ?_⟩
  · show [Ar.bag, Ar.d (.lst (itemsOf (F.map (·.1)) (F.map fun p => Dt.str p.2)))] = _
    rw [items_fs]
  · obtain ⟨S, pS, rfl⟩ := perm_map pe
    have hS := FsOk.perm hF pS
    refine ⟨S.map fun p => (p.1, Dt.str p.2), by rw [List.map_map]; rfl, by rw [List.map_map]; exact hS.nd, ?_⟩
    have := q S hS
    unfold fsD at this
    rw [List.map_map, List.map_map]
    exact this
end VL
/-! sorted(d.items()), d a dict of texts by texts. -/
namespace VL
open PySem PySem.Spec PyProof.Rows L2 TL RX
open TX (paired_at)
section
variable {X : Cx}
theorem pairs_at {K : Type} [DecidableEq K] {prog : Program} {w : World} {knd : KeyKind prog w K} {es : List DictEntry} {kvs : List (K × Value)} (h : Pairs knd es kvs) : ∀ {j : Nat} {e : DictEntry}, es[j]? = some e → ∃ kv, kvs[j]? = some kv ∧ knd.is kv.1 e.key = true ∧ e.val = kv.2 := by
  induction h with
  | nil => intro j e hj; simp at hj
  | @cons e0 kv es kvs h1 h2 _ ih =>
    intro j e hj
    cases j with
    | zero => simp at hj; subst hj; exact ⟨kv, rfl, h1, h2⟩
    | succ j => obtain ⟨kv', a, b⟩ := ih (j := j) (by simpa using hj); exact ⟨kv', by simpa using a, b⟩
theorem perm_mapA {α β : Type} {f : α → β} {es : List β} {l : List α} (p : es.Perm (l.map f)) : ∃ S : List α, S.Perm l ∧ S.map f = es := by
  induction es generalizing l with
  | nil => exact ⟨[], by have := p.length_eq; rw [List.length_map] at this; rw [List.length_eq_zero_iff.mp this.symm], rfl⟩
  | cons y ys ih =>
    obtain ⟨e, he, rfl⟩ := List.mem_map.mp (p.mem_iff.mp List.mem_cons_self)
    obtain ⟨A, B, rfl⟩ := List.append_of_mem he
    have p2 : (A ++ e :: B).Perm (e :: (A ++ B)) := List.perm_middle
    have p3 := p.trans (p2.map f)
    rw [List.map_cons] at p3
    obtain ⟨S, h1, h2⟩ := ih p3.cons_inv
    exact ⟨e :: S, (List.Perm.cons e h1).trans p2.symm, by rw [List.map_cons, h2]⟩
abbrev kfS (F : List (PySem.Str × PySem.Str)) : List (L2.Key × V) := F.map fun p => (Sum.inr p.1, V.str p.2)
theorem cr_sortItemsS (hc : X.calm = true) : CallR X (.builtin "sorted") (fun vs H Q => ∃ (p a : Addr) (F : List (PySem.Str × PySem.Str)), vs = [.ref p] ∧ H p = some (L2.DX.itemsO p a) ∧ Rd H a (.dK (kfS F)) ∧ F.length ≤ 1000 ∧
    ∀ H' l as (G : List (PySem.Str × PySem.Str)), (∀ b o, H b = some o → H' b = some o) → H l = none → H' l = some (.lst (as.map V.ref)) → G.Perm F → SrtO.Srtd (fun x y => _root_.DK.lexT x y) G →
      Paired (fun b kv => H b = none ∧ H' b = some (.tup [.str kv.1, .str kv.2])) as G → Q (.ref l) H') := by
  intro pins s σ H vs us Q I r h
  obtain ⟨p, a, F, rfl, hp, ha, few, q⟩ := h
  rw [Vals.ref1 r]
  have view : s.heap.IsItemsView p a := (show ObjOk X.prog X.w H s.heap p (L2.DX.itemsO p a) from I.hok p _ hp).1
  obtain ⟨z, hd, vs, rel, o, es, ep, ho, hx, hdat, hks, hpr, hnd⟩ := dk_rd I.hok ha
  have lv : (kfS F).length = vs.length := Paired.length rel
  rw [List.length_map] at lv
  have le : es.size = vs.length := by rw [← Array.length_toList]; exact hpr.length
  have hh : X.A.handled = none := I.ok.hd hc
  refine DT.sortedI (es := es) (ep := ep) hh view ⟨o, ho, hx, hdat⟩ (by rw [sizeLine_eq]; omega) fun h' tk as hk hlt hl hG => ?_
  have lak : as.length = F.length := by omega
  have nd : as.Nodup := List.Pairwise.imp (fun h => Nat.ne_of_lt h) hG.rise
  -- the pairs that were made
  have pr : ∀ (j : Nat) (b : Addr), as[j]? = some b → ∃ (e : PySem.Str × PySem.Str) (t u : Tok), F[j]? = some e ∧ h'.get? b = some { cls := .type "tuple", data := .seq #[Value.str e.1 t, Value.str e.2 u] } := by
    intro j b hj
    obtain ⟨en, he, hg⟩ := hG.pairs j b hj
    obtain ⟨kv, hkv, hk1, hk2⟩ := pairs_at hpr (j := j) (e := en) (by rw [Array.getElem?_toList]; exact he)
    have hj2 : j < F.length := by rw [lv]; exact (List.getElem?_eq_some_iff.mp hkv).1
    have e4 : F[j]? = some F[j] := List.getElem?_eq_getElem hj2
    obtain ⟨r1, r2⟩ := paired_at rel (show (kfS F)[j]? = some (Sum.inr F[j].1, V.str F[j].2) by rw [List.getElem?_map, e4]; rfl) hkv
    have r1' : (Sum.inr F[j].1 : L2.Key) = kv.1 := r1
    have rk := keyIs_rel hk1
    rw [← r1'] at rk
    obtain ⟨t, et⟩ := (show RelV (V.str F[j].1) en.key from rk)
    obtain ⟨u, eu⟩ := (show RelV (V.str F[j].2) kv.2 from r2)
    exact ⟨F[j], t, u, e4, by rw [hg, hk2, et, eu]⟩
  have hob : (h'.push { cls := .type "list", data := .seq (as.map Value.ref).toArray }).get? h'.objs.size = some (seqObj "list" (as.map Value.ref).toArray 0) := Heap.get?_push_size _ rfl
  have kb : ∀ b o, s.heap.get? b = some o → (h'.push { cls := .type "list", data := .seq (as.map Value.ref).toArray }).get? b = some o := fun b o e => Heap.get?_push_of_some _ (hk b o e)
  have ne0 : ∀ b o, h'.get? b = some o → b ≠ h'.objs.size := fun b o e => Nat.ne_of_lt (Heap.lt_size e)
  generalize hh2 : h'.push { cls := .type "list", data := .seq (as.map Value.ref).toArray } = h2 at hob kb ⊢
  have ka : ∀ b o, h'.get? b = some o → h2.get? b = some o := fun b o e => by rw [← hh2]; exact Heap.get?_push_of_some _ e
  -- what stands behind an address
  obtain ⟨kf, kfp⟩ : ∃ kf : Value → PySem.Str × PySem.Str, ∀ (j : Nat) (b : Addr) (e : PySem.Str × PySem.Str), as[j]? = some b → F[j]? = some e → kf (.ref b) = e := by
    refine ⟨fun v => match v with | .ref b => (match (as.zip F).find? fun z => decide (z.1 = b) with | some z => z.2 | none => ("", "")) | _ => ("", ""), fun j b e hj he => ?_⟩
    have hz : (b, e) ∈ as.zip F := List.mem_of_getElem? (i := j) (List.getElem?_zip_eq_some.mpr ⟨hj, he⟩)
    show (match (as.zip F).find? fun z => decide (z.1 = b) with | some z => z.2 | none => ("", "")) = e
    cases hf : (as.zip F).find? fun z => decide (z.1 = b) with
    | none =>
      have := List.find?_eq_none.mp hf (b, e) hz
      simp at this
    | some z' =>
      have h1 : z'.1 = b := by have := List.find?_some hf; simpa using this
      have h2 := List.mem_of_find?_eq_some hf
      obtain ⟨i, hi⟩ := List.mem_iff_getElem?.mp h2
      obtain ⟨i1, i2⟩ := List.getElem?_zip_eq_some.mp hi
      rw [h1] at i1
      obtain ⟨a1, b1⟩ := List.getElem?_eq_some_iff.mp i1
      obtain ⟨a2, b2⟩ := List.getElem?_eq_some_iff.mp hj
      have : i = j := (List.getElem_inj nd).mp (b1.trans b2.symm)
      subst this
      rw [he] at i2
      exact (Option.some.inj i2).symm
  have at_ : ∀ v ∈ as.map Value.ref, ∃ (j : Nat) (b : Addr) (e : PySem.Str × PySem.Str) (t u : Tok), v = .ref b ∧ as[j]? = some b ∧ F[j]? = some e ∧ kf v = e ∧ h'.get? b = some { cls := .type "tuple", data := .seq #[Value.str e.1 t, Value.str e.2 u] } := by
    intro v hv'
    obtain ⟨b, hb, rfl⟩ := List.mem_map.mp hv'
    obtain ⟨j, hj⟩ := List.mem_iff_getElem?.mp hb
    obtain ⟨e, t, u, he, hg⟩ := pr j b hj
    exact ⟨j, b, e, t, u, rfl, hj, he, kfp j b e hj he, hg⟩
  have ip : ∀ v ∈ as.map Value.ref, _root_.DK.IsPT h2 v (kf v).1 (kf v).2 := fun v hv => by
    obtain ⟨j, b, e, t, u, rfl, hj, he, ek, hg⟩ := at_ v hv
    rw [ek]
    exact ⟨b, _, t, u, _, rfl, ka _ _ hg, rfl, rfl⟩
  refine wpAny_call_entry PyProof.Rows.slot_list_sort ⟨_, hob, rfl⟩ PyProof.Rows.entry_list_sort
    (SrtO.list_sort_ord (s := { s with heap := h2, toks := tk }) (_root_.DK.swo_lexT kf) hob (by rw [List.length_map, sizeLine_eq]; omega) (fun hl2 => ?_) fun out hs hb => ⟨.none, rfl, ?_⟩) (PyProof.Rows.args_list_sort _)
  · refine _root_.DK.pt_sortable (by omega) ip fun o e c => ?_
    have e' : some o = some (seqObj "list" (as.map Value.ref).toArray 0) := e.symm.trans hob
    cases e'
    exact absurd (Value.type.inj c) (by decide)
  · show EP X pins σ Q (.ref h'.objs.size) { s with heap := sortedHeap h2 h'.objs.size (as.map Value.ref) out.toArray, toks := tk }
    have pm := hb.perm
    obtain ⟨as', pas, eas⟩ := perm_mapA (f := Value.ref) pm
    have kF : ∀ b o, b ≠ h'.objs.size → h2.get? b = some o → (sortedHeap h2 h'.objs.size (as.map Value.ref) out.toArray).get? b = some o := fun b o hb e => (PyProof.Rows.sortedHeap_old hb (Heap.lt_size e)).trans e
    have kS : ∀ b o, s.heap.get? b = some o → (sortedHeap h2 h'.objs.size (as.map Value.ref) out.toArray).get? b = some o := fun b o e => kF b o (ne0 _ _ (hk b o e)) (kb b o e)
    obtain ⟨eF, heF⟩ := PyProof.Rows.sortedHeap_at (vs := as.map Value.ref) (out := out.toArray) hob
    have I1 : Inv X pins σ H { s with heap := sortedHeap h2 h'.objs.size (as.map Value.ref) out.toArray, toks := tk } := I.kept (t' := tk) kS
    have hn0 : H h'.objs.size = none := I.hok.fresh (Nat.le_of_lt hlt)
    have hlen : (as'.map V.ref).length ≤ sizeLine := by rw [List.length_map, pas.length_eq, sizeLine_eq]; omega
    have vr : ∀ l : List Addr, Vals (l.map V.ref) (l.map Value.ref) := fun l => by
      induction l with
      | nil => exact .nil
      | cons x l ih => exact .cons rfl ih
    have rv : Vals (as'.map V.ref) out := by rw [← eas]; exact vr as'
    have I2 : Inv X pins σ (upd H h'.objs.size (.lst (as'.map V.ref))) { s with heap := sortedHeap h2 h'.objs.size (as.map Value.ref) out.toArray, toks := tk } :=
      I1.take (h' := sortedHeap h2 h'.objs.size (as.map Value.ref) out.toArray) (t' := tk) (fun b ob _ e => e) (I.fpOk (Nat.le_of_lt hlt) hn0) ⟨hlen, out, eF, rv, heF⟩
    obtain ⟨H2, I3, k2, t2⟩ := L2.DX.takeT (P := fun b xs => xs = [V.str (kf (.ref b)).1, V.str (kf (.ref b)).2]) I as _ I2 nd fun b hb => by
      obtain ⟨j, b', e, t, u, eb, hj, he, ek, hg⟩ := at_ (.ref b) (List.mem_map.mpr ⟨b, hb, rfl⟩)
      cases eb
      have hlo := hG.above b hb
      refine ⟨Nat.le_of_lt hlo, by rw [upd_ne (ne0 _ _ hg)]; exact I.hok.fresh (Nat.le_of_lt hlo), _, rfl, fun H3 => ⟨by show 2 ≤ sizeLine; rw [sizeLine_eq]; omega, [.str e.1 t, .str e.2 u], by rw [ek]; exact .cons ⟨t, rfl⟩ (.cons ⟨u, rfl⟩ .nil), _, kF _ _ (ne0 _ _ hg) (ka _ _ hg), rfl, _, rfl⟩⟩
    have nS : ∀ b o, H b = some o → b ≠ h'.objs.size := fun b o e n => by rw [n, hn0] at e; cases e
    refine ⟨.ref h'.objs.size, H2, I3, rfl, q H2 _ as' (out.map kf) (fun b o e => k2 b o (by rw [upd_ne (nS b o e)]; exact e)) hn0 (k2 _ _ upd_same) ?_ (SrtO.srtd_map hs) ?_⟩
    · have e1 := pm.map kf
      have e2 : (as.map Value.ref).map kf = F := by
        refine List.ext_getElem? fun j => ?_
        rw [List.getElem?_map, List.getElem?_map]
        cases hj : as[j]? with
        | none =>
          have : F.length ≤ j := by rw [← lak]; exact List.getElem?_eq_none_iff.mp hj
          rw [List.getElem?_eq_none this]; rfl
        | some b =>
          obtain ⟨e, _, _, he, _⟩ := pr j b hj
          rw [he]
          show some (kf (.ref b)) = _
          rw [kfp j b e hj he]
      rw [e2] at e1
      exact e1
    · rw [← eas, List.map_map]
      have : ∀ l : List Addr, (∀ b ∈ l, b ∈ as) → Paired (fun b (kv : PySem.Str × PySem.Str) => H b = none ∧ H2 b = some (.tup [.str kv.1, .str kv.2])) l (l.map (kf ∘ Value.ref)) := fun l => by
        induction l with
        | nil => intro _; exact .nil
        | cons b l ih =>
          intro hb
          obtain ⟨xs, e1, e2⟩ := t2 b (hb b List.mem_cons_self)
          refine .cons ⟨I.hok.fresh (Nat.le_of_lt (hG.above b (hb b List.mem_cons_self))), by rw [e2, e1]; rfl⟩ (ih fun c hc => hb c (List.mem_cons_of_mem _ hc))
      exact this as' fun b hb => pas.mem_iff.mp hb
end
end VL
/-! own.update(d), own.pop(k) as statements; reversed walks; xs[::-1]; sorted(d.items()) by data; dicts that are the same by lookups. -/
namespace VL
open PySem PySem.Spec PyProof.Rows L2 TL RX
section
variable {X : Cx} {e : Expr} {pos : Pos}
/-! ### own.update(d) -/
def mergeD (ks : List PySem.Str) (ds : List Dt) : List PySem.Str → List Dt → Dt
  | k :: ks2, d :: ds2 => mergeD (keysP ks k) (valsP ks ds k d) ks2 ds2
  | _, _ => .dic ks ds
def updateD : DMu
  | .dic ks ds, [.dic ks2 ds2], M => ks.length + ks2.length ≤ sizeLine ∧ M .non (mergeD ks ds ks2 ds2)
  | _, _, _ => False
theorem merge_own {g : Geo} {H H' : Hp} {a : Addr} (ha : g.O a) (o : HO) (hH : H' = upd H a o) : ∀ (kv2 kv : List (PySem.Str × V)) (ds ds2 : List Dt), (kv.map (·.1)).Nodup → RpAll g H (kv.map (·.2)) ds → RpAll g H (kv2.map (·.2)) ds2 →
    ∃ kv', mergeK (kk kv) (kk kv2) = kk kv' ∧ (o = .dK (kk kv') → OwnC g H' a (mergeD (kv.map (·.1)) ds (kv2.map (·.1)) ds2))
  | [], kv, ds, ds2, nd, r, r2 => by
    cases r2
    exact ⟨kv, rfl, fun e => ⟨kv, by rw [hH, e]; exact upd_same, nd, rfl, by rw [hH]; exact r.chg ha⟩⟩
  | p :: kv2, kv, ds, ds2, nd, r, r2 => by
    cases ds2 with
    | nil => cases r2
    | cons d ds2 =>
      have r3 : Rp g H p.2 d := by cases r2; assumption
      have r4 : RpAll g H (kv2.map (·.2)) ds2 := by cases r2; assumption
      have nd' : ((putV' kv p.1 p.2).map (·.1)).Nodup := by rw [putV_keys]; exact keysP_nodup nd
      obtain ⟨kv', e1, e2⟩ := merge_own ha o hH kv2 (putV' kv p.1 p.2) (valsP (kv.map (·.1)) ds p.1 d) ds2 nd' (putV_rel r3 r) r4
      refine ⟨kv', ?_, fun e => ?_⟩
      · rw [← e1]
        show mergeK (putK (kk kv) (Sum.inr p.1) p.2) (kk kv2) = _
        rw [putK_kk]
      · have := e2 e
        rw [putV_keys] at this
        exact this
theorem vmu_update : VMu X "dict.update" updateD := by
  intro pins s σ H x vs v us Q I rx rvs ⟨g, a, d0, ds, M, e, c, oa, nb, oc, p, q, k⟩
  unfold updateD at q
  split at q
  · next ks ds0 ks2 ds2 =>
    cases p with
    | cons p1 p2 =>
      cases p2
      subst e
      obtain ⟨kv, ha, nd, ek, rr⟩ := oc
      subst ek
      obtain ⟨b, kv2, e1, nOb, hb, nd2, ek2, rr2⟩ := Rp.dic_inv p1
      subst e1
      subst ek2
      obtain rfl : v = Value.ref a := rx
      obtain ⟨u, rfl, ru⟩ := vals1 rvs
      obtain rfl : u = Value.ref b := ru
      have ab : a ≠ b := fun z => nOb (z ▸ oa)
      obtain ⟨z1, hd1, vs1, rel1, dd1⟩ := dk_of I.hok ha
      obtain ⟨z2, hd2, vs2, rel2, dd2⟩ := dk_rd I.hok hb
      have l1 : (kk kv).length = vs1.length := Paired.length rel1
      have l2 : (kk kv2).length = vs2.length := Paired.length rel2
      have q1 := q.1
      rw [List.length_map, List.length_map] at q1
      rw [kk_len] at l1 l2
      refine call_meetsIn PySem.F.slot_dict_update dd1.typeIs PySem.F.entry_dict_update (PySem.F.args_dict_update_2 _ _) (meets_dict_update (mixKind X.prog X.w) a b ab hd2) ⟨vs1, vs2, dd1, dd2, by omega, fun h' dd' _ hs => ?_⟩
      obtain ⟨kv', e1, e2⟩ := merge_own (H' := upd H a (.dK (mergeK (kk kv) (kk kv2)))) oa _ rfl kv2 kv ds0 ds2 nd rr rr2
      have he : ∃ q, h'.get? a = some q := let ⟨q, _, _, hq, _⟩ := dd'; ⟨q, hq⟩
      have lm := length_mergeK (kk kv2) (kk kv)
      rw [kk_len, kk_len] at lm
      have I2 : Inv X pins σ (upd H a (.dK (mergeK (kk kv) (kk kv2)))) { s with heap := h' } :=
        d_write (t' := s.toks) I (by rw [ha]; exact True.intro) hs he (dk_new (by omega) hd1 (KV.merge rel2 rel1) dd')
      exact ⟨.non, _, I2, rfl, k .non .non _ _ q.2 (e2 (by rw [e1])) .non⟩
  · exact q.elim
/-! ### own.pop(k) -/
def dpopD : DMu
  | .dic ks ds, [.str k], M => ∃ d, lookD ks ds k = some d ∧ M d (.dic (keysX ks k) (valsX ks ds k))
  | _, _, _ => False
theorem vmu_dpop : VMu X "dict.pop" dpopD := by
  intro pins s σ H x vs v us Q I rx rvs ⟨g, a, d0, ds, M, e, c, oa, nb, oc, p, q, k⟩
  unfold dpopD at q
  split at q
  · next ks ds0 kx =>
    cases p with
    | cons p1 p2 =>
      cases p2
      subst e
      obtain ⟨kv, ha, nd, ek, rr⟩ := oc
      subst ek
      obtain ⟨d, ed, m⟩ := q
      obtain ⟨vv, ev, rv⟩ := look_some rr ed
      obtain rfl : v = Value.ref a := rx
      obtain ⟨u, rfl, ru⟩ := vals1 rvs
      have e1 := p1.str_inv
      subst e1
      refine d_pop (k := Sum.inr kx) I ha ru (by rw [val_kk]; exact ev) (.inl rfl) fun w' s3 I3 rw' => ?_
      rw [dropK_kk] at I3
      exact ⟨vv, _, I3, rw', k d vv _ _ m ⟨dropV' kv kx, upd_same, by rw [dropV_keys]; exact keysX_nodup nd, dropV_keys kv kx, (dropV_rel rr).chg oa⟩ (Rp.chg oa rv)⟩
  · exact q.elim
/-! ### reversed -/
theorem goes_rev {K : PySem.W.Frag} {g : Geo} {H : Hp} {a : Addr} {xs : List V} {ds : List Dt} (na : ¬ g.O a) (h : H a = some (.lst xs)) (r : RpAll g H xs ds) : Goes g (Itv K a xs.length) ds.reverse H :=
  ⟨fun H => SqL K H a xs, fun i H x H' => H' = H ∧ i < xs.length ∧ xs[xs.length - 1 - i]? = some x, by rw [List.length_reverse, ← r.len]; exact (walk_rev (K := K) (a := a) (xs := xs)).mono (fun _ h => h) (fun i H x H' hi _ y => ⟨y.1, hi, y.2⟩), fun O' H' kp => .inl (.inl (kp a _ na h).1), fun i H2 x H2' O2 kp c y => by
    obtain ⟨rfl, hi, hx⟩ := y
    obtain ⟨d, hd, p⟩ := r.gt hx
    rw [r.len] at hi
    refine ⟨d, ?_, .refl c, Rp.mono (fun a o n e => kp a o n e) _ _ p⟩
    rw [List.getElem?_reverse hi, ← r.len]
    exact hd⟩
def viRev (t : DE) : DI := fun ρ M => t ρ fun d => match d with
  | .lst ds => M ds.reverse
  | _ => False
theorem vi_rev {tg : Expr} {t : DE} {p : Pos} (hg : Gl X "reversed") (hm : X.mg "reversed" = none) (ha : VE X e t) (hs : starEach [e] X.env = [(false, eval e X.env)] := by rfl) (hs' : starEach [e] X.env = (false, eval e X.env) :: starEach [] X.env := by rfl) :
    VI X tg (.Call (.Name "reversed" p) [e] [] pos) (viRev t) :=
  pi_imp (pi_reversed hg hm (pa_cons ha pa_nil hs') hs) fun σ H R ⟨f, O, ρ, M, r, q, k⟩ => ⟨f, O, ρ, _, r, q, fun d v H1 m n p => by
    cases d with
    | lst ds =>
      obtain ⟨a, xs, e, na, ha, ra⟩ := p.lst_inv
      exact ⟨a, xs, by rw [e], .inl (.inl ha), k _ _ _ m n (goes_rev na ha ra)⟩
    | _ => exact m.elim⟩
/-! ### xs[::-1] -/
def vRev (t : DE) : DE := fun ρ M => t ρ fun d => match d with
  | .lst ds => M (.lst ds.reverse)
  | _ => False
theorem rp_rev {g : Geo} {H : Hp} {vs : List V} {ds : List Dt} (h : RpAll g H vs ds) : RpAll g H vs.reverse ds.reverse := by
  induction h using RpAll.rec (motive_1 := fun _ _ _ => True) with
  | nil => exact .nil
  | cons a t _ ih => rw [List.reverse_cons, List.reverse_cons]; exact ih.app (.cons a .nil)
  | _ => trivial
theorem vf_rev {t : DE} {k : Nat} {p1 p2 p3 : Pos} (he : VC X e t) : VF X (.Subscript e (.Slice none none (some (.UnaryOp .USub (.Constant (.int 1) k p1) p2)) p3) pos) (vRev t) :=
  pe_imp (pe_revL he) fun σ H Q ⟨f, O, ρ, M, r, q, k⟩ => ⟨f, O, ρ, _, r, q, fun d v H1 m n p => by
    cases d with
    | lst ds =>
      obtain ⟨a, xs, e1, e2, e3⟩ := p.lst
      have r1 := r.nxt n
      refine ⟨a, xs, e1, .inl (.inl e2), fun pp np => ?_⟩
      have n2 : Nxt (gO f O) H1 (upd H1 pp (.lst xs.reverse)) := .new r1.ctx np
      exact k _ pp _ m (n.trans n2) (none_before n np) (own_new r1.ctx np (rp_rev e3))
    | _ => exact m.elim⟩
/-! ### sorted(d.items()) -/
def vSortItems (t : DE) : DE := fun ρ M => t ρ fun d => match d with
  | .dic ks ds => ∃ F : List (PySem.Str × PySem.Str), ks = F.map (·.1) ∧ ds = F.map (fun p => .str p.2) ∧ F.length ≤ 1000 ∧ ∀ G : List (PySem.Str × PySem.Str), G.Perm F → SrtO.Srtd (fun x y => _root_.DK.lexT x y) G → M (.lst (G.map cpD))
  | _ => False
/-! ### dicts of the same keys and plain values -/
def neLD : D2
  | .dic ks ds, .dic ls es, M => ks.length = ls.length ∧ (∀ k ∈ ks, ∃ d, lookD ks ds k = some d ∧ lookD ls es k = some d ∧ flatD d = true) ∧ M (.bl false)
  | _, _, _ => False
end
end VL
/-! sorted(d.items()); dicts compared by lookups; dict of a tuple of couples. -/
namespace VL
open PySem PySem.Spec PyProof.Rows L2 TL RX
section
variable {X : Cx} {e o : Expr} {pos apos cpos : Pos}
theorem kk_strs {g : Geo} {H : Hp} : ∀ {kv : List (PySem.Str × V)} {F : List (PySem.Str × PySem.Str)}, kv.map (·.1) = F.map (·.1) → RpAll g H (kv.map (·.2)) (F.map fun p => .str p.2) → kk kv = kfS F
  | [], [], _, _ => rfl
  | [], _ :: _, h, _ => by cases h
  | _ :: _, [], h, _ => by cases h
  | p :: kv, q :: F, h, r => by
    rw [List.map_cons, List.map_cons] at h
    injection h with h1 h2
    cases r with
    | cons r1 r2 =>
      have ih := kk_strs h2 r2
      have e2 := Rp.str_inv r1
      show (Sum.inr p.1, p.2) :: kk kv = (Sum.inr q.1, V.str q.2) :: kfS F
      have e2' : p.2 = V.str q.2 := e2
      rw [ih, h1, e2']
theorem sortItems_rp {g : Geo} {H H' : Hp} {p : Addr} : ∀ {as : List Addr} {G : List (PySem.Str × PySem.Str)}, Paired (fun b (kv : PySem.Str × PySem.Str) => H b = none ∧ H' b = some (.tup [.str kv.1, .str kv.2])) as G → (∀ b, g.O b → ∃ o, H b = some o) → (∀ b ∈ as, b ≠ p) → RpAll (g.and p) H' (as.map V.ref) (G.map cpD)
  | _, _, .nil, _, _ => .nil
  | a :: as, _, .cons h t, al, np => by
    refine .cons (.tup (fun z => ?_) h.2 (.cons (.str _) (.cons (.str _) .nil))) (sortItems_rp t al fun b hb => np b (List.mem_cons_of_mem _ hb))
    rcases (show g.O a ∨ a = p from z) with z | z
    · obtain ⟨o, e⟩ := al a z
      rw [h.1] at e; cases e
    · exact np a List.mem_cons_self z
theorem vf_sortItems {x : PySem.Str} {p pos : Pos} {t : DE} (hc : X.calm = true) (hg : Gl X x) (hm : X.mg x = none) (hv : bootBuiltins x = some (.builtin "sorted")) (ho : VC X o t) (hn : x ≠ "__name__" := by decide) (hdb : (x == ("__debug__" : PySem.Str)) = false := by decide)
    (hbase : attributeBase o "items" X.env (eval o X.env) = eval o X.env := by rfl) (hline : (apos.endLine == cpos.line) = true := by rfl)
    (he : starEach [.Call (.Attribute o "items" apos) [] [] cpos] X.env = (false, eval (.Call (.Attribute o "items" apos) [] [] cpos) X.env) :: starEach [] X.env := by rfl) (hpl : (backTo pos (starEach [] X.env)).any (·.1) = false := by rfl) :
    VF X (.Call (.Name x p) [.Call (.Attribute o "items" apos) [] [] cpos] [] pos) (vSortItems t) :=
  pe_imp (pe_callB (cr_sortItemsS hc) hg hm hv (pa_cons (pe_items0 ho hbase hline) pa_nil he) hn hdb he hpl) fun σ H Q ⟨f, O, ρ, M, r, q, k⟩ => ⟨f, O, ρ, _, r, q, fun d v H1 m n p => by
    cases d with
    | dic ks ds =>
      obtain ⟨a, kv, e1, ha, nd, ek, rr⟩ := p.dic
      obtain ⟨F, f1, f2, few, m⟩ := m
      rw [f1] at ek
      rw [f2] at rr
      have ekk := kk_strs ek rr
      have r1 := r.nxt n
      refine ⟨a, kk kv, e1, ha, fun pv npv => ?_⟩
      have r2 := r1.nxt (.new (o := L2.DX.itemsO pv a) r1.ctx npv)
      have ha2 : Rd (upd H1 pv (L2.DX.itemsO pv a)) a (.dK (kk kv)) := rd_map (fun o h => new_ne h npv) ha
      rw [ekk] at ha2
      refine ⟨pv, a, F, rfl, upd_same, ha2, few, fun H' l as G sm nl hl pG so pr => ?_⟩
      have n2 : Nxt (gO f O) (upd H1 pv (L2.DX.itemsO pv a)) H' := .same r2.ctx sm
      have nl1 : H1 l = none := by
        cases e : H1 l with
        | none => rfl
        | some o => rw [new_ne e npv] at nl; cases nl
      have n12 : Nxt (gO f O) H1 H' := (Nxt.new r1.ctx npv).trans n2
      refine k _ l H' (m G pG so) (n.trans n12) (none_before n nl1) ⟨as.map V.ref, hl, ?_⟩
      refine sortItems_rp pr (fun b hb => r2.ctx.al b hb) fun b hb z => ?_
      subst z
      obtain ⟨kvp, hk⟩ := pd_memL pr hb
      rw [hl] at hk
      exact absurd hk.2 (fun z => nomatch z)
    | _ => exact m.elim⟩
/-! ### dicts compared -/
theorem vop_neL (hu : X.A.units < cLine) : VOp X (compareOp .NotEq) neLD := by
  intro pins s σ H x y v u Q I rx ry ⟨g, d1, d2, M, c, h1, h2, q, k⟩
  unfold neLD at q
  split at q
  · next ks ds ls es =>
    obtain ⟨a, kv1, e1, ea, nd1, ek1, rr1⟩ := h1.dic
    obtain ⟨b, kv2, e2, eb, nd2, ek2, rr2⟩ := h2.dic
    subst e1; subst e2
    obtain ⟨hl, same, m⟩ := q
    subst ek1; subst ek2
    obtain rfl : v = Value.ref a := rx
    obtain rfl : u = Value.ref b := ry
    obtain ⟨_, ya, va, ra, da⟩ := (show ObjOk X.prog X.w H s.heap a (.dK (kk kv1)) from rd_of I.hok ea)
    obtain ⟨_, yb, vb, rb, db⟩ := (show ObjOk X.prog X.w H s.heap b (.dK (kk kv2)) from rd_of I.hok eb)
    rw [List.length_map, List.length_map] at hl
    have hlen : (kk kv1).length = (kk kv2).length := by rw [kk_len, kk_len]; exact hl
    have hl' : va.length = vb.length := by rw [← ra.length, ← rb.length]; exact hlen
    have hp : ∀ p ∈ kk kv1, valV (kk kv2) p.1 = some p.2 ∧ flatB p.2 = true := fun p hp => by
      unfold kk at hp
      obtain ⟨r, hr, rfl⟩ := List.mem_map.mp hp
      obtain ⟨d, l1, l2, fd⟩ := same r.1 (List.mem_map.mpr ⟨r, hr, rfl⟩)
      obtain ⟨v1, ev1, rv1⟩ := look_some rr1 l1
      obtain ⟨v2, ev2, rv2⟩ := look_some rr2 l2
      have e1 : v1 = r.2 := by
        have := val_mem nd1 hr
        rw [ev1] at this
        exact Option.some.inj this
      have same2 : ∀ (x y : V), Rp g H x d → Rp g H y d → y = x ∧ flatB x = true := fun x y h1 h2 => by
        cases d with
        | non => cases h1; cases h2; exact ⟨rfl, rfl⟩
        | bl c => cases h1; cases h2; exact ⟨rfl, rfl⟩
        | int c => cases h1; cases h2; exact ⟨rfl, rfl⟩
        | str c => cases h1; cases h2; exact ⟨rfl, rfl⟩
        | _ => cases fd
      obtain ⟨s1, s2⟩ := same2 v1 v2 rv1 rv2
      rw [e1] at s1 s2
      refine ⟨?_, s2⟩
      rw [val_kk, ev2, s1]
    exact PySem.W.keq_ne (knd := mixKind X.prog X.w) (r := true) ya yb da db hu (fun _ => hits_all rb ra hp) (fin_bl I (k _ _ _ m (.refl c) (.bl _)) (by simp [hl']))
  · exact q.elim
end
end VL
/-! Walks over a new dict; own.setdefault; `name += e`; f-strings; sorted(set(texts)). -/
namespace VL
open PySem PySem.Spec PyProof.Rows L2 TL RX
section
variable {X : Cx} {e : Expr} {pos : Pos} {fr : Bool}
/-! ### for k in a new dict -/
theorem pe_frz {t : TE} (h : PE X e t) : PE X e (fun σ H Q => t σ H fun v H1 => ∃ d u, v = .ref d ∧ H1 d = some u ∧ Mut (some u) ∧ ∀ od, Q v (upd H1 d (.frz od u))) := ⟨fun pins s σ H Q I hw => by
  refine thn (h.run pins s σ H _ I hw) fun v s1 ⟨x, H1, I1, r, d, u, ex, hd, mu, q⟩ => ?_
  obtain ⟨od, I2⟩ := I1.lock hd mu
  exact ⟨x, _, I2, r, q od⟩⟩
def viDicF (t : DE) : DI := fun ρ M => t ρ fun d => match d with
  | .dic ks _ => M (ks.map Dt.str)
  | _ => False
theorem vi_dicF {tg : Expr} {t : DE} (h : VF X e t) : VI X tg e (viDicF t) :=
  pi_imp (pi_keys (pe_frz h)) fun σ H R ⟨f, O, ρ, M, r, q, k⟩ => ⟨f, O, ρ, _, r, q, fun d a H1 m n na oc => by
    cases d with
    | dic ks ds =>
      obtain ⟨kv, ha, nd, ek, rr⟩ := oc
      subst ek
      refine ⟨a, _, rfl, ha, trivial, fun od => ⟨a, od, rfl, .inl ⟨kk kv, upd_same, ?_⟩⟩⟩
      have n2 : Nxt (gO f O) H (upd H1 a (.frz od (.dK (kk kv)))) := by
        have nb : a ≠ f.g.b := fun z => by obtain ⟨o, ho⟩ := r.ctx.b_some; rw [show (gO f O).b = f.g.b from rfl, ← z, na] at ho; cases ho
        obtain ⟨l, cs, ow, hl, lb⟩ := (r.nxt n).ctx.bag.own
        have al : a ≠ l := fun z => by
          obtain ⟨l0, cs0, ow0, hl0, lb0⟩ := r.ctx.bag.own
          have := Own.fn ow (ow0.chb n.c)
          rw [← this, ← z, na] at hl0; cases hl0
        obtain ⟨bg, _⟩ := Bag.set (o := .frz od (.dK (kk kv))) n.bag ow nb al
        refine ⟨⟨fun x u ne e => ?_, fun p q' s m' e => ?_⟩, bg⟩
        · rw [upd_ne (fun z => by rw [z, na] at e; cases e)]
          exact n.c.app x u ne e
        · obtain ⟨p', q2, s', e'⟩ := n.c.fo p q' s m' e
          exact ⟨p', q2, s', by rw [upd_ne nb.symm]; exact e'⟩
      exact k _ _ _ m n2 (goes_keys (not_new r na) upd_same)
    | _ => exact m.elim⟩
/-! ### own.setdefault(k, v) -/
def setdefD : DMu
  | .dic ks ds, [.str k, d], M => ks.length < sizeLine ∧ match lookD ks ds k with
    | some d' => M d' (.dic ks ds)
    | none => M d (.dic (ks ++ [k]) (ds ++ [d]))
  | _, _, _ => False
/-! ### name += e, ints -/
def dAugI (i : Nat) (g : Int → Int → Int) (t : DE) : DS := fun D ρ => match ρ[i]? with
  | some (some (.d (.int a))) => t ρ fun d => match d with
    | .int b => D.nx (ρ.set i (some (.d (.int (g a b)))))
    | _ => False
  | _ => False
theorem vs_augI {i : Nat} {x : PySem.Str} {op : Operator} {g : Int → Int → Int} {t : DE} {pos' : Pos} (hN : X.N.Nodup) (hi : X.N[i]? = some x) (hx : Loc X.env.scope x) (he : VE X e t) (ho : PIp X op (ipI g)) (hf : X.fn x = true ∨ X.env.scope.names.lookup x = some .local := by first | exact .inl rfl | exact .inr rfl | assumption) :
    VS fr X (.AugAssign (.Name x pos') op e pos) (dAugI i g t) :=
  ps_imp (ps_aug hN hi hx he ho hf) fun E σ H ⟨f, O, ρ, D, r, q, k⟩ => by
    unfold dAugI at q
    split at q
    · next a ei =>
      obtain ⟨v, ev, p⟩ := r.sl _ _ ei
      have e1 := Rp.int_inv p
      subst e1
      refine ⟨_, ev, f, O, ρ, _, r, q, fun d v H1 m n p => ?_⟩
      cases d with
      | int b => exact ⟨_, _, rfl, p.int_inv, k.nx _ _ _ _ m ((r.nxt n).setD (.int _)) (n.kep r.ctx)⟩
      | _ => exact m.elim
    · exact q.elim
/-! ### f-strings -/
def vFmt (t : DE) : DE := fun ρ M => t ρ fun d => match d with
  | .str y => y.length ≤ sizeLine ∧ M (.str y)
  | .int i => i.natAbs.log2 < 1920 ∧ M (.str (toString i))
  | _ => False
theorem ve_fmt {t : DE} (he : VC X e t) : VE X (.FormattedValue e (-1) none pos) (vFmt t) :=
  pe_imp (pe_fmt he) fun σ H Q ⟨f, O, ρ, M, r, q, k⟩ => ⟨f, O, ρ, _, r, q, fun d v H1 m n p => by
    cases d with
    | str y => exact .inl ⟨y, p.str, m.1, k _ _ _ m.2 n (.str y)⟩
    | int i => exact .inr ⟨i, p.int, m.1, k _ _ _ m.2 n (.str _)⟩
    | _ => exact m.elim⟩
def vJs : List DE → PySem.Str → DE
  | [], acc => fun _ M => M (.str acc)
  | t :: ts, acc => fun ρ M => t ρ fun d => match d with
    | .str y => (acc ++ y).length ≤ sizeLine ∧ vJs ts (acc ++ y) ρ M
    | _ => False
abbrev VJ (X : Cx) (es : List Expr) (ts : List DE) : Prop := PJ X es (ts.map lE)
theorem vj_nil : VJ X [] [] := .nil
theorem vj_cons {t : DE} {es : List Expr} {ts : List DE} (h : VE X e t) (k : VJ X es ts) : VJ X (e :: es) (t :: ts) := .cons h k
theorem vjs_lift : ∀ (ts : List DE) (acc : PySem.Str) {σ : L2.St} {H : Hp} {Q : L2.VK}, lE (vJs ts acc) σ H Q → tJs (ts.map lE) acc σ H fun out H1 => Q (.str out) H1
  | [], acc, σ, H, Q, ⟨f, O, ρ, M, r, q, k⟩ => k _ _ _ q (.refl r.ctx) (.str _)
  | t :: ts, acc, σ, H, Q, ⟨f, O, ρ, M, r, q, k⟩ => ⟨f, O, ρ, _, r, q, fun d v H1 m n p => by
    cases d with
    | str y => exact ⟨y, p.str_inv, m.1, vjs_lift ts (acc ++ y) ⟨f, O, ρ, M, r.nxt n, m.2, fun d v H2 m2 n2 p2 => k d v H2 m2 (n.trans n2) p2⟩⟩
    | _ => exact m.elim⟩
theorem ve_joined {v1 v2 : Expr} {rest : List Expr} {ts : List DE} (h : VJ X (v1 :: v2 :: rest) ts) : VE X (.JoinedStr (v1 :: v2 :: rest) pos) (vJs ts PySem.Str.empty) := pe_imp (pe_joined h) fun _ _ _ h => vjs_lift ts _ h
/-! ### sorted(set(texts)) -/
def vSortSetS (t : DE) : DE := fun ρ M => t ρ fun d => match d with
  | .lst ds => ∃ xs, strsOf ds = some xs ∧ xs.length < 64 ∧ ∀ ys : List PySem.Str, TX.Asc ys → (∀ x, x ∈ ys ↔ x ∈ xs) → ys.length ≤ xs.length → M (.lst (ys.map Dt.str))
  | _ => False
theorem vf_sortSetS {t : DE} {p1 p2 p3 p4 : Pos} (hc : X.calm = true) (hg1 : Gl X "sorted") (hg2 : Gl X "set") (m1 : X.mg "sorted" = none) (m2 : X.mg "set" = none) (he : VE X e t)
    (h1 : starEach (e :: []) X.env = (false, eval e X.env) :: starEach [] X.env := by rfl) : VF X (.Call (.Name "sorted" p1) [.Call (.Name "set" p2) [e] [] p3] [] p4) (vSortSetS t) :=
  pe_imp (_root_.DK.pe_sortSet hc hg1 hg2 m1 m2 he h1) fun σ H Q ⟨f, O, ρ, M, r, q, k⟩ => ⟨f, O, ρ, _, r, q, fun d v H1 m n p => by
    cases d with
    | lst ds =>
      obtain ⟨xs, ex, few, m⟩ := m
      have := strsOf_eq ex
      subst this
      obtain ⟨a, vs, e1, na, e2, e3⟩ := p.lst_inv
      have := rp_strs_inv e3
      subst this
      refine ⟨a, xs, e1, e2, few, fun H' pp ys sm np hp as mm le => ?_⟩
      have r1 := r.nxt n
      have n2 : Nxt (gO f O) H1 H' := .same r1.ctx sm
      exact k _ pp H' (m ys as mm le) (n.trans n2) (none_before n np) ⟨ys.map V.str, hp, strs_rp ys⟩
    | _ => exact m.elim⟩
end
end VL
/-! own.setdefault. -/
namespace VL
open PySem PySem.Spec PyProof.Rows L2 TL RX
section
variable {X : Cx} {e : Expr} {pos : Pos} {fr : Bool}
theorem upd_id {H : Hp} {a : Addr} {o : HO} (h : H a = some o) : upd H a o = H := by
  funext x
  by_cases z : x = a
  · rw [z, h]; exact upd_same
  · exact upd_ne z
theorem vmu_setdefault : VMu X "dict.setdefault" setdefD := by
  intro pins s σ H x vs v us Q I rx rvs ⟨g, a, d0, ds, M, e, c, oa, nb, oc, p, q, k⟩
  unfold setdefD at q
  split at q
  · next ks ds0 kx d =>
    cases p with
    | cons p1 p2 =>
      cases p2 with
      | cons p2 p3 =>
        cases p3
        subst e
        obtain ⟨kv, ha, nd, ek, rr⟩ := oc
        subst ek
        obtain ⟨sz, q⟩ := q
        obtain rfl : v = Value.ref a := rx
        obtain ⟨u1, u2, rfl, ru1, ru2⟩ := vals2 rvs
        have e1 := p1.str_inv
        subst e1
        obtain ⟨z1, hd1, vs1, rel1, dd1⟩ := dk_of I.hok ha
        have l1 : (kk kv).length = vs1.length := Paired.length rel1
        have rv := rel1.val (Sum.inr kx)
        rw [kk_len] at l1 z1
        rw [List.length_map] at sz
        refine call_meetsIn PySem.F.slot_dict_setdefault dd1.typeIs PySem.F.entry_dict_setdefault (PySem.F.args_dict_setdefault_3 _ _ _) (kt_meets_setdefault (mixKind X.prog X.w) a (kV_is (k := (Sum.inr kx : L2.Key)) ru1) hd1 u2) ⟨vs1, dd1, by omega, fun v' hv => ?_, fun hn h' dd' hs => ?_⟩
        · rw [hv] at rv
          cases hl : lookD (kv.map (·.1)) ds0 kx with
          | none =>
            have := look_mem (x := kx) (ks := kv.map (·.1)) (ds := ds0) (by rw [List.length_map, ← rr.len, List.length_map])
            rw [hl] at this
            have hs2 := val_isSome (x := kx) rr
            rw [← this] at hs2
            cases hv2 : valV (kk kv) (Sum.inr kx) with
            | none => rw [hv2] at rv; exact False.elim rv
            | some w => rw [hv2] at hs2; cases hs2
          | some d' =>
            rw [hl] at q
            obtain ⟨vv, ev, rp⟩ := look_some rr hl
            rw [val_kk, ev] at rv
            refine (⟨vv, H, I.tok _, rv, ?_⟩ : EP X pins σ Q v' _)
            have := k d' vv (.dic (kv.map (·.1)) ds0) (.dK (kk kv)) q
            rw [upd_id ha] at this
            exact this ⟨kv, ha, nd, rfl, rr⟩ rp
        · rw [hn] at rv
          have hv2 : valV (kk kv) (Sum.inr kx) = none := by
            cases hv2 : valV (kk kv) (Sum.inr kx) with
            | none => rfl
            | some w => rw [hv2] at rv; exact False.elim rv
          have hs2 := val_isSome (x := kx) rr
          rw [hv2] at hs2
          have nin : kx ∉ kv.map (·.1) := fun z => by rw [decide_eq_true z] at hs2; cases hs2
          have hl : lookD (kv.map (·.1)) ds0 kx = none := by
            have := look_mem (x := kx) (ks := kv.map (·.1)) (ds := ds0) (by rw [List.length_map, ← rr.len, List.length_map])
            rw [decide_eq_false nin] at this
            cases h : lookD (kv.map (·.1)) ds0 kx with
            | none => rfl
            | some _ => rw [h] at this; cases this
          rw [hl] at q
          obtain ⟨dv, eu⟩ : ∃ dv : V, RelV dv u2 ∧ Rp g H dv d := ⟨_, ru2, p2⟩
          have I2 : Inv X pins σ (upd H a (.dK (putK (kk kv) (Sum.inr kx) dv))) { s with heap := h', toks := s.toks + 1 } :=
            d_write (t' := s.toks + 1) I (by rw [ha]; exact True.intro) hs (let ⟨q, _, _, hq, _⟩ := dd'; ⟨q, hq⟩) (dk_new (by have := length_putK (kk kv) (Sum.inr kx) dv; rw [kk_len] at this; omega) hd1 (rel1.put (Sum.inr kx) eu.1) dd')
          rw [putK_kk] at I2
          have ep : putV' kv kx dv = kv ++ [(kx, dv)] := by unfold putV'; rw [if_neg nin]
          refine (⟨dv, _, I2, eu.1, k d dv _ _ q ⟨putV' kv kx dv, upd_same, by rw [putV_keys]; exact keysP_nodup nd, by rw [ep, List.map_append]; rfl, ?_⟩ (Rp.chg oa eu.2)⟩ : EP X pins σ Q u2 _)
          rw [ep, List.map_append]
          exact (rr.app (.cons eu.2 .nil)).chg oa
  · exact q.elim
/-! ### own.clear() -/
def dClear (i : Nat) : DS := fun D ρ => match ρ[i]? with
  | some (some (.own (.dic _ _))) => D.nx (ρ.set i (some (.own (.dic [] []))))
  | _ => False
theorem vs_clear {i : Nat} {x : PySem.Str} {p apos cpos : Pos} (hN : X.N[i]? = some x) (hv : Vis X.env.scope x)
    (hd : (x == ("__debug__" : PySem.Str)) = false := by decide) (hcd : (x == ("__classdict__" : PySem.Str)) = false := by decide)
    (hbase : attributeBase (.Name x p) "clear" X.env (eval (.Name x p) X.env) = eval (.Name x p) X.env := by rfl) (hline : (apos.endLine == cpos.line) = true := by rfl)
    (hsw : swapsWith (.Call (.Attribute (.Name x p) "clear" apos) [] [] cpos) none pos.line X.env = pure false := by rfl) :
    VS fr X (.Expr (.Call (.Attribute (.Name x p) "clear" apos) [] [] cpos) pos) (dClear i) :=
  ps_imp (ps_expr (pe_dclear (pe_var hN hv hd hcd) hbase hline) hsw) fun E σ H ⟨f, O, ρ, D, r, q, k⟩ => by
    unfold dClear at q
    split at q
    · next ks ds ei =>
      obtain ⟨v, ev, a, e1, oa, fa, oc⟩ := r.sl _ _ ei
      subst e1
      have ty := oc.tyM (K := X.K) (T := "dict") rfl
      obtain ⟨kv, ha, nd, ek, rr⟩ := oc
      refine ⟨_, ev, ty, a, _, rfl, rfl, ha, ?_⟩
      exact k.nx _ _ _ _ q (r.chg ei ev ⟨[], upd_same, List.nodup_nil, rfl, .nil⟩) fun y u no eq => ⟨by rw [upd_ne (fun z : y = a => no (z ▸ oa))]; exact eq, no⟩
    · exact q.elim
end
end VL
/-! `name = {.. for ..}`. -/
namespace VL
open PySem PySem.Spec PyProof.Rows L2 TL RX
section
variable {X : Cx}
theorem ps_setDc {i : Nat} {y : PySem.Str} {py : Pos} {kx vx tg iter : Expr} {ifs : List Expr} {scope : Scope} {own : List (PySem.Str × Nat)} {pos spos : Pos} {wi : TI} {g : TG} {tt : TT} {tk tv : TE} (hc : X.calm = true) (hN : X.N.Nodup) (hy : X.N[i]? = some y) (hyl : X.env.scope.names.lookup y = some .local)
    (hsw : swapsWith (.DictComp kx vx [⟨tg, iter, ifs, 0⟩] scope pos) (some (.Name y py)) spos.line X.env = pure true) (hi : PI X tg iter wi) (ok : BlkOk X.N X.env.scope scope own)
    (hg : ∀ (s : Shared) (H : Hp) (C : Addr) (cl : List (PySem.Str × Addr)) (fp : List Addr), PG (X.blk s H scope (compEnvC scope cl C X.env) fp) tg g) (ht : ∀ (s : Shared) (H : Hp) (C : Addr) (cl : List (PySem.Str × Addr)) (fp : List Addr), PTs (X.blk s H scope (compEnvC scope cl C X.env) fp) ifs tt)
    (hk : ∀ (s : Shared) (H : Hp) (C : Addr) (cl : List (PySem.Str × Addr)) (fp : List Addr), PE (X.blk s H scope (compEnvC scope cl C X.env) fp) kx tk)
    (he : ∀ (s : Shared) (H : Hp) (C : Addr) (cl : List (PySem.Str × Addr)) (fp : List Addr), PE (X.blk s H scope (compEnvC scope cl C X.env) fp) vx tv) (hs : ∀ x, foldedSetIterable iter X.env x = pure x := by intro _; rfl) :
    PS X (.Assign [.Name y py] (.DictComp kx vx [⟨tg, iter, ifs, 0⟩] scope pos) spos) (tAsg (tDc wi g tt tk tv (own.map (·.2))) (gName i)) := by
  refine ⟨fun pins s σ H D I h => ?_⟩
  rw [exec_Assign_Name_used _ _ _ _ hsw]
  refine wpAny_bind (wpAny_standAt (wpAny_bind ?_))
  show wpAny _ X.A (do let _ ← comprehension (.DictComp kx vx [⟨tg, iter, ifs, 0⟩] scope pos) scope X.env (firstIterPos [⟨tg, iter, ifs, 0⟩] pos) newDict false (eval iter X.env) (some (assign (.Name y py) X.env))) _ _ s
  have h : tDc wi g tt tk tv (own.map (·.2)) σ H (fun x H1 => gName i x σ H1 D.nx) := h
  refine wpAny_bind (thn (dc_core (Qf := fun _ s' => SP X pins D .next s') hc hN I hi ok hg ht hk he hs h fun L C s' m H' I' q hn f => ?_) fun _ s' hq => wpAny_pure (wpAny_pure hq))
  show wpAny _ _ (assign (.Name y py) X.env (.ref L)) _ _ _
  refine wpAny_assign_Name (store_ok2 (v := V.ref L) I' hN hy (.inl hyl) rfl (fun s2 I2 ⟨a, sb, ha⟩ => ?_) (.inr hyl))
  obtain ⟨f0, f1, f2, f3, f4, f5⟩ := f
  have haC : C ≠ a := by
    rcases ha with z | z
    · rw [z]; exact f1
    · exact fun e => f4 y a z e.symm
  refine ⟨m, hn.sameBut sb haC, fun h3 sb3 => ?_⟩
  exact ⟨_, H', I2.turned (t' := s2.toks) (fun b o hb e => (sb3.2 b hb).trans e) f0 f1 f3 f4 f5, q⟩
theorem sw_trueD {kx vx : Expr} {gs : List Comprehension} {scope : Scope} {pos py : Pos} {y : PySem.Str} {l : Nat} {env : Env} (hk : env.scope.kind = .function) (hy : env.scope.names.lookup y = some .local) (hl : (py.line == pos.line) = true)
    (ha : (scope.names.any fun (n, k) => n == y && (k == .local || k == .cell)) = false) : swapsWith (.DictComp kx vx gs scope pos) (some (.Name y py)) l env = pure true := by
  have ky : env.kindOf y = some .local := hy
  have hb : env.blockKind = .function := by unfold Env.blockKind; rw [hk]; rfl
  unfold swapsWith
  simp only [hb, ky, ha, Expr.pos, hl]
  rfl
variable {fr : Bool} {pos : Pos}
theorem vs_setDcO {i : Nat} {y : PySem.Str} {py : Pos} {kx vx tg iter : Expr} {ifs : List Expr} {scope : Scope} {own : List (PySem.Str × Nat)} {spos : Pos} {ti : DI} {g : DG} {tt : DT} {tk tv : DE} (hc : X.calm = true) (hN : X.N.Nodup) (hy : X.N[i]? = some y) (hyl : X.env.scope.names.lookup y = some .local)
    (hsw : swapsWith (.DictComp kx vx [⟨tg, iter, ifs, 0⟩] scope pos) (some (.Name y py)) spos.line X.env = pure true) (hi : VI X tg iter ti) (ok : BlkOk X.N X.env.scope scope own)
    (hg : ∀ (s : Shared) (H : Hp) (C : Addr) (cl : List (PySem.Str × Addr)) (fp : List Addr), VG (X.blk s H scope (compEnvC scope cl C X.env) fp) (own.map (·.2)) tg g) (ht : ∀ (s : Shared) (H : Hp) (C : Addr) (cl : List (PySem.Str × Addr)) (fp : List Addr), VTs (X.blk s H scope (compEnvC scope cl C X.env) fp) ifs tt)
    (hk : ∀ (s : Shared) (H : Hp) (C : Addr) (cl : List (PySem.Str × Addr)) (fp : List Addr), VE (X.blk s H scope (compEnvC scope cl C X.env) fp) kx tk)
    (he : ∀ (s : Shared) (H : Hp) (C : Addr) (cl : List (PySem.Str × Addr)) (fp : List Addr), VE (X.blk s H scope (compEnvC scope cl C X.env) fp) vx tv) (hs : ∀ x, foldedSetIterable iter X.env x = pure x := by intro _; rfl) :
    VS fr X (.Assign [.Name y py] (.DictComp kx vx [⟨tg, iter, ifs, 0⟩] scope pos) spos) (dSetO i (vDc ti g tt tk tv (own.map (·.2)))) :=
  ps_imp (ps_setDc hc hN hy hyl hsw hi ok hg ht hk he hs) fun E σ H ⟨f, O, ρ, D, r, q, k⟩ => vdc_lift ⟨f, O, ρ, _, r, q, fun d a H1 m n na p => k.nx _ _ _ _ m (r.setO n na p) (kep_new r n na)⟩
theorem vs_setDc {i : Nat} {y : PySem.Str} {py : Pos} {kx vx tg iter : Expr} {ifs : List Expr} {scope : Scope} {own : List (PySem.Str × Nat)} {spos : Pos} {ti : DI} {g : DG} {tt : DT} {tk tv : DE} (hc : X.calm = true) (hN : X.N.Nodup) (hy : X.N[i]? = some y) (hyl : X.env.scope.names.lookup y = some .local)
    (hsw : swapsWith (.DictComp kx vx [⟨tg, iter, ifs, 0⟩] scope pos) (some (.Name y py)) spos.line X.env = pure true) (hi : VI X tg iter ti) (ok : BlkOk X.N X.env.scope scope own)
    (hg : ∀ (s : Shared) (H : Hp) (C : Addr) (cl : List (PySem.Str × Addr)) (fp : List Addr), VG (X.blk s H scope (compEnvC scope cl C X.env) fp) (own.map (·.2)) tg g) (ht : ∀ (s : Shared) (H : Hp) (C : Addr) (cl : List (PySem.Str × Addr)) (fp : List Addr), VTs (X.blk s H scope (compEnvC scope cl C X.env) fp) ifs tt)
    (hk : ∀ (s : Shared) (H : Hp) (C : Addr) (cl : List (PySem.Str × Addr)) (fp : List Addr), VE (X.blk s H scope (compEnvC scope cl C X.env) fp) kx tk)
    (he : ∀ (s : Shared) (H : Hp) (C : Addr) (cl : List (PySem.Str × Addr)) (fp : List Addr), VE (X.blk s H scope (compEnvC scope cl C X.env) fp) vx tv) (hs : ∀ x, foldedSetIterable iter X.env x = pure x := by intro _; rfl) :
    VS fr X (.Assign [.Name y py] (.DictComp kx vx [⟨tg, iter, ifs, 0⟩] scope pos) spos) (dSet i (vDc ti g tt tk tv (own.map (·.2)))) :=
  ps_imp (ps_setDc hc hN hy hyl hsw hi ok hg ht hk he hs) fun E σ H ⟨f, O, ρ, D, r, q, k⟩ => vdc_lift ⟨f, O, ρ, _, r, q, fun d a H1 m n na p => k.nx _ _ _ _ m ((r.nxt n).setD (p.rp (not_new r na))) (n.kep r.ctx)⟩
end
end VL
/-! Shelves: numbers behind them, what they keep; by data. -/
namespace VL
open PySem PySem.Spec PyProof.Rows L2 TL RX
open _root_.DK (Fl fsD FsOk Tm tmS_of KEYS KTR KOT KLO num numsF numW numP ShP putF getF dropF Ord behind begins allD good val allIn Fg mem_get get_mem get_none)
def sh (n : Nat) : PySem.Str := ShP ++ num (n : Int)
abbrev OTH : List PySem.Str := KTR ++ (KOT ++ KLO)
theorem sh_ok : ∀ n < 301, numW ShP (sh n) = some (n : Int) ∧ numP ShP (sh n) = some (n : Int) ∧ _root_.DK.tmS 10 3 (sh n) = true := by decide +kernel
theorem oth_ok : ∀ k ∈ OTH, numW ShP k = none ∧ numP ShP k = none ∧ _root_.DK.tmS 30 5 k = true := by decide +kernel
theorem sh_inj {m n : Nat} (hm : m ≤ 300) (hn : n ≤ 300) (h : sh m = sh n) : m = n := by
  have a := (sh_ok m (by omega)).1
  rw [h, (sh_ok n (by omega)).1] at a
  exact (Int.ofNat.inj (Option.some.inj a)).symm
/-- a path: what stands behind store/c is a number up to 300 as shown, or none -/
structure KO (x : PySem.Str) : Prop where
  pw : numP ShP x = numW ShP x
  sm : ∀ i, numW ShP x = some i → ∃ n : Nat, n ≤ 300 ∧ i = n ∧ x = sh n
  tm : Tm 510 460 x
theorem oth_ko {x : PySem.Str} (h : x ∈ OTH) : KO x := by
  obtain ⟨a, b, c⟩ := oth_ok x h
  exact ⟨by rw [a, b], fun i z => (by rw [a] at z; cases z), (tmS_of c).up (by decide) (by decide)⟩
theorem sh_ko {n : Nat} (hn : n ≤ 300) : KO (sh n) := by
  obtain ⟨a, b, c⟩ := sh_ok n (by omega)
  exact ⟨by rw [a, b], fun i z => ⟨n, hn, by rw [a] at z; exact (Option.some.inj z).symm, rfl⟩, (tmS_of c).up (by decide) (by decide)⟩
theorem KO.num {x : PySem.Str} (h : KO x) : numP ShP x = numW ShP x ∧ ∀ i, numW ShP x = some i ↔ ∃ n : Nat, n ≤ 300 ∧ i = n ∧ x = sh n :=
  ⟨h.pw, fun i => ⟨h.sm i, fun ⟨n, hn, e1, e2⟩ => by rw [e1, e2]; exact (sh_ok n (by omega)).1⟩⟩
theorem keys_ko : ∀ x ∈ KEYS, KO x := fun x hx => by
  rcases List.mem_append.mp hx with h | h
  · exact oth_ko (List.mem_append_left _ h)
  · rcases List.mem_append.mp h with h | h
    · exact oth_ko (List.mem_append_right _ (List.mem_append_left _ h))
    · rcases List.mem_append.mp h with h | h
      · have : ∀ x ∈ _root_.DK.KSH, ∃ n, n < 301 ∧ x = sh n := fun x hx => by
          simp only [_root_.DK.KSH, List.mem_cons, List.not_mem_nil, or_false] at hx
          rcases hx with rfl | rfl | rfl | rfl | rfl
          · exact ⟨0, by decide, by decide +kernel⟩
          · exact ⟨1, by decide, by decide +kernel⟩
          · exact ⟨2, by decide, by decide +kernel⟩
          · exact ⟨3, by decide, by decide +kernel⟩
          · exact ⟨7, by decide, by decide +kernel⟩
        obtain ⟨n, h1, rfl⟩ := this x h
        exact sh_ko (by omega)
      · exact oth_ko (List.mem_append_right _ (List.mem_append_right _ h))
/-- files whose paths are drawn ones or shelves -/
structure FsK (F : Fl) : Prop where
  k : ∀ p ∈ F, KO p.1
  c : ∀ p ∈ F, Tm 500 450 p.2
  nd : (F.map (·.1)).Nodup
  few : F.length ≤ 60
theorem FsOk.fk {F : Fl} (h : FsOk F) : FsK F := ⟨fun p hp => keys_ko _ (h.k p hp), h.c, h.nd, by have := h.few; omega⟩
theorem FsK.put {F : Fl} (h : FsK F) {x c : PySem.Str} (hx : KO x) (hc : Tm 500 450 c) (few : F.length < 60) : FsK (putF F x c) := by
  refine ⟨fun p hp => ?_, fun p hp => ?_, _root_.DK.put_nd h.nd _ _, by have := _root_.DK.put_len F x c; omega⟩
  · rcases _root_.DK.put_mem hp with z | z
    · exact h.k p z
    · rw [z]; exact hx
  · rcases _root_.DK.put_mem hp with z | z
    · exact h.c p z
    · rw [z]; exact hc
/-- the shelves' numbers, ascending -/
structure NS (F : Fl) (ns : List Nat) : Prop where
  asc : ns.Pairwise (· < ·)
  mem : ∀ n, n ∈ ns ↔ n ≤ 300 ∧ sh n ∈ F.map (·.1)
theorem asc_ext : ∀ {ms ns : List Nat}, ms.Pairwise (· < ·) → ns.Pairwise (· < ·) → (∀ n, n ∈ ms ↔ n ∈ ns) → ms = ns := fun {ms ns} a b h =>
  List.Perm.eq_of_pairwise (le := fun a b : Nat => a ≤ b) (fun x y _ _ p q => Nat.le_antisymm p q) (a.imp Nat.le_of_lt) (b.imp Nat.le_of_lt) ((List.perm_ext_iff_of_nodup (a.imp Nat.ne_of_lt) (b.imp Nat.ne_of_lt)).mpr h)
theorem NS.one {F : Fl} {ms ns : List Nat} (a : NS F ms) (b : NS F ns) : ms = ns := asc_ext a.asc b.asc fun n => (a.mem n).trans (b.mem n).symm
theorem nums_eq {F : Fl} (h : FsK F) : (F.filterMap fun p => numP ShP p.1) = numsF ShP F := by
  unfold numsF
  have : ∀ F : Fl, (∀ p ∈ F, KO p.1) → (F.filterMap fun p => numP ShP p.1) = F.filterMap fun p => numW ShP p.1 := by
    intro F
    induction F with
    | nil => intro _; rfl
    | cons p F ih => intro h; rw [List.filterMap_cons, List.filterMap_cons, (h p List.mem_cons_self).num.1, ih fun q hq => h q (List.mem_cons_of_mem _ hq)]
  exact this F h.k
theorem nums_mem {F : Fl} (h : FsK F) (i : Int) : i ∈ numsF ShP F ↔ ∃ n : Nat, n ≤ 300 ∧ i = n ∧ sh n ∈ F.map (·.1) := by
  unfold numsF
  rw [List.mem_filterMap]
  constructor
  · rintro ⟨p, hp, e⟩
    obtain ⟨n, h1, h2, h3⟩ := ((h.k p hp).num.2 i).mp e
    exact ⟨n, h1, h2, h3 ▸ List.mem_map.mpr ⟨p, hp, rfl⟩⟩
  · rintro ⟨n, h1, h2, h3⟩
    obtain ⟨p, hp, e⟩ := List.mem_map.mp h3
    exact ⟨p, hp, ((h.k p hp).num.2 i).mpr ⟨n, h1, h2, e⟩⟩
theorem nums_nd {F : Fl} (h : FsK F) : (numsF ShP F).Nodup := by
  unfold numsF
  have : ∀ F : Fl, (∀ p ∈ F, KO p.1) → (F.map (·.1)).Nodup → (F.filterMap fun p => numW ShP p.1).Nodup := by
    intro F
    induction F with
    | nil => intro _ _; exact List.nodup_nil
    | cons p F ih =>
      intro h nd
      rw [List.map_cons, List.nodup_cons] at nd
      have ih' := ih (fun q hq => h q (List.mem_cons_of_mem _ hq)) nd.2
      rw [List.filterMap_cons]
      cases e : numW ShP p.1 with
      | none => exact ih'
      | some i =>
        refine List.nodup_cons.mpr ⟨fun m => ?_, ih'⟩
        obtain ⟨q, hq, eq⟩ := List.mem_filterMap.mp m
        obtain ⟨n, _, e1, e2⟩ := ((h p List.mem_cons_self).num.2 i).mp e
        obtain ⟨n', _, e3, e4⟩ := ((h q (List.mem_cons_of_mem _ hq)).num.2 i).mp eq
        have : n = n' := Int.ofNat.inj (e1.symm.trans e3)
        exact nd.1 (by rw [e2, this, ← e4]; exact List.mem_map.mpr ⟨q, hq, rfl⟩)
  exact this F h.k h.nd
theorem ns_of {F : Fl} (h : FsK F) {ms : List Int} (p : ms.Perm (numsF ShP F)) (s : ms.Pairwise (· ≤ ·)) : ∃ ns : List Nat, ms = ns.map (fun n : Nat => (n : Int)) ∧ NS F ns := by
  have nn : ∀ i ∈ ms, ∃ n : Nat, n ≤ 300 ∧ i = n ∧ sh n ∈ F.map (·.1) := fun i hi => (nums_mem h i).mp (p.mem_iff.mp hi)
  have e : ms = (ms.map Int.toNat).map (fun n : Nat => (n : Int)) := by
    rw [List.map_map]
    conv => lhs; rw [← List.map_id ms]
    refine List.map_congr_left fun i hi => ?_
    obtain ⟨n, _, rfl, _⟩ := nn i hi
    rfl
  have nd : ms.Nodup := p.nodup_iff.mpr (nums_nd h)
  refine ⟨ms.map Int.toNat, e, ?_, fun n => ?_⟩
  · rw [List.pairwise_map]
    have both := List.pairwise_and_iff.mpr ⟨s, nd⟩
    refine List.Pairwise.imp_of_mem (fun {a b} ha hb z => ?_) both
    obtain ⟨m, _, rfl, _⟩ := nn a ha
    obtain ⟨k, _, rfl, _⟩ := nn b hb
    have := z.1
    have := z.2
    simp at *
    omega
  · rw [List.mem_map]
    constructor
    · rintro ⟨i, hi, rfl⟩
      obtain ⟨n, h1, rfl, h3⟩ := nn i hi
      exact ⟨h1, h3⟩
    · rintro ⟨h1, h2⟩
      exact ⟨(n : Int), p.mem_iff.mpr ((nums_mem h _).mpr ⟨n, h1, rfl, h2⟩), rfl⟩
theorem NS.few {F : Fl} {ns : List Nat} (h : NS F ns) (k : FsK F) : ns.length ≤ 60 := by
  have nd : (ns.map sh).Nodup := by
    rw [List.nodup_iff_pairwise_ne, List.pairwise_map]
    refine List.Pairwise.imp_of_mem (fun {a b} ha hb z e => ?_) h.asc
    exact absurd (sh_inj ((h.mem a).mp ha).1 ((h.mem b).mp hb).1 e) (Nat.ne_of_lt z)
  have := RX.nodup_le nd (ys := F.map (·.1)) fun x hx => by
    obtain ⟨n, hn, rfl⟩ := List.mem_map.mp hx
    exact ((h.mem n).mp hn).2
  rw [List.length_map, List.length_map] at this
  exact Nat.le_trans this k.few
theorem look_fs (F : Fl) (x : PySem.Str) : lookD (F.map (·.1)) (F.map fun p => Dt.str p.2) x = (getF F x).map Dt.str := by
  induction F with
  | nil => rfl
  | cons p F ih =>
    show (if p.1 = x then some (Dt.str p.2) else lookD (F.map (·.1)) (F.map fun p => Dt.str p.2) x) = _
    by_cases e : p.1 = x
    · rw [if_pos e, _root_.DK.get_pos e]; rfl
    · rw [if_neg e, _root_.DK.get_neg e, ih]
theorem mem_keys {F : Fl} {x : PySem.Str} (h : x ∈ F.map (·.1)) : ∃ c, getF F x = some c := by
  cases e : getF F x with
  | some c => exact ⟨c, rfl⟩
  | none => exact absurd h (get_none.mp e)
end VL
/-! Numbers behind paths, shelves, what they keep. -/
namespace VL
open PySem PySem.Spec PyProof.Rows L2 TL RX
open _root_.DK (Fl fsD Tm tmS_of num numsF numW numP ShP putF getF dropF Ord behind begins allD good val allIn Fg mem_get get_mem get_none headOk)
/-! ### number_behind -/
end VL
/-! What the shelves keep. -/
namespace VL
open PySem PySem.Spec PyProof.Rows L2 TL RX
open _root_.DK (Fl fsD Tm tmS_of num numsF numW numP ShP putF getF dropF Ord behind begins allD good val allIn Fg mem_get get_mem get_none)
/-! ### numbers_behind -/
theorem numsP_filt : ∀ F : Fl, ((F.map fun p => ovD (numP ShP p.1)).filter fun d => !isNon d) = (F.filterMap fun p => numP ShP p.1).map Dt.int
  | [] => rfl
  | p :: F => by
    have ih := numsP_filt F
    rw [List.map_cons, List.filter_cons, List.filterMap_cons]
    cases numP ShP p.1 with
    | none => simpa [ovD, isNon] using ih
    | some i => simpa [ovD, isNon] using ih
/-! ### shelf_of, shelves_on -/
theorem sh_len {n : Nat} (h : n ≤ 300) : (sh n).length ≤ 10 := (tmS_of (sh_ok n (by omega)).2.2).len
theorem nat_log {n : Nat} (h : n ≤ 300) : ((n : Nat) : Int).natAbs.log2 < 1920 := by
  have e : (10 : Nat) ^ 3 = 1000 := by decide +kernel
  exact _root_.DK.log_le (k := 3) (by show n < _; omega) (by decide)
/-! ### kept -/
/-- contents and their first shelves -/
def kl (F : Fl) : List Nat → Fl → Fl
  | [], L => L
  | n :: ns, L => kl F ns (if (getF L ((getF F (sh n)).getD "")).isSome = true then L else L ++ [((getF F (sh n)).getD "", sh n)])
theorem kl_snoc (F : Fl) : ∀ (ns : List Nat) (n : Nat) (L : Fl), kl F (ns ++ [n]) L = (if (getF (kl F ns L) ((getF F (sh n)).getD "")).isSome = true then kl F ns L else kl F ns L ++ [((getF F (sh n)).getD "", sh n)])
  | [], n, L => rfl
  | m :: ns, n, L => kl_snoc F ns n _
theorem kl_nd (F : Fl) : ∀ (ns : List Nat) (L : Fl), (L.map (·.1)).Nodup → ((kl F ns L).map (·.1)).Nodup
  | [], L, h => h
  | n :: ns, L, h => by
    refine kl_nd F ns _ ?_
    split
    · exact h
    · next hn =>
      rw [List.map_append]
      refine List.nodup_append.mpr ⟨h, by simp, fun x hx y hy e => hn ?_⟩
      have : y = (getF F (sh n)).getD "" := by simpa using hy
      rw [← this, ← e]
      obtain ⟨c, hc⟩ := mem_keys hx
      rw [hc]; rfl
theorem kl_len (F : Fl) : ∀ (ns : List Nat) (L : Fl), (kl F ns L).length ≤ L.length + ns.length
  | [], L => Nat.le_refl _
  | n :: ns, L => by
    have := kl_len F ns (if (getF L ((getF F (sh n)).getD "")).isSome = true then L else L ++ [((getF F (sh n)).getD "", sh n)])
    show (kl F ns _).length ≤ _
    have l2 : (if (getF L ((getF F (sh n)).getD "")).isSome = true then L else L ++ [((getF F (sh n)).getD "", sh n)]).length ≤ L.length + 1 := by
      split
      · omega
      · rw [List.length_append]; exact Nat.le_refl _
    rw [List.length_cons]; omega
/-- its keys: the contents of the shelves -/
theorem kl_keys (F : Fl) : ∀ (ns : List Nat) (L : Fl) (c : PySem.Str), c ∈ (kl F ns L).map (·.1) ↔ c ∈ L.map (·.1) ∨ ∃ n ∈ ns, (getF F (sh n)).getD "" = c
  | [], L, c => by simp [kl]
  | n :: ns, L, c => by
    show c ∈ (kl F ns _).map (·.1) ↔ _
    rw [kl_keys F ns _ c]
    constructor
    · rintro (h | ⟨m, hm, e⟩)
      · split at h
        · exact .inl h
        · rw [List.map_append] at h
          rcases List.mem_append.mp h with h | h
          · exact .inl h
          · exact .inr ⟨n, List.mem_cons_self, by simpa using (show c = _ by simpa using h).symm⟩
      · exact .inr ⟨m, List.mem_cons_of_mem _ hm, e⟩
    · rintro (h | ⟨m, hm, e⟩)
      · left
        split
        · exact h
        · rw [List.map_append]; exact List.mem_append_left _ h
      · rcases List.mem_cons.mp hm with z | z
        · subst z
          left
          split
          · next hs =>
            rw [e] at hs
            cases hg : getF L c with
            | none => rw [hg] at hs; cases hs
            | some v => exact List.mem_map.mpr ⟨_, get_mem hg, rfl⟩
          · rw [List.map_append, e]; exact List.mem_append_right _ (by simp)
        · exact .inr ⟨m, z, e⟩
theorem nd_take {ys : List PySem.Str} (nd : ys.Nodup) {i : Nat} {y : PySem.Str} (h : ys[i]? = some y) : y ∉ ys.take i := fun m => by
  have e := List.take_append_drop i ys
  have hd : y ∈ ys.drop i := List.mem_of_getElem? (i := 0) (by rw [List.getElem?_drop]; exact h)
  rw [← e, List.nodup_append] at nd
  exact nd.2.2 y m y hd rfl
theorem by_keys {L : Fl} (nd : (L.map (·.1)).Nodup) {ys : List PySem.Str} (p : ys.Perm (L.map (·.1))) : (ys.map fun y => (y, (getF L y).getD "")).Perm L := by
  have := p.map fun y => (y, (getF L y).getD "")
  rw [List.map_map] at this
  have e : L.map ((fun y => (y, (getF L y).getD "")) ∘ fun x => x.1) = L := by
    conv => rhs; rw [← List.map_id L]
    refine List.map_congr_left fun q hq => ?_
    show (q.1, (getF L q.1).getD "") = q
    rw [mem_get nd hq]; rfl
  rw [e] at this
  exact this
/-! ### _law_kept -/
/-! ### drop_if_there -/
def dropR (x : PySem.Str) : Dt := .tup [.str "drop", .str x]
end VL
/-! Names, paths, shelves, steps. -/
namespace VL
open PySem PySem.Spec PyProof.Rows L2 TL RX
open _root_.DK (Nz Lt Sl Bk Nl isNm isPath isShelf headIn allIn ShP numP stepB lockB)
theorem all_map_bl {α : Type} (l : List α) (f : α → Bool) : blsOf (l.map fun c => Dt.bl (f c)) = some (l.map f) := by
  have := blsOf_map (l.map f)
  rw [List.map_map] at this
  exact this
theorem lcs : ("abcdefghijklmnopqrstuvwxyz" : PySem.Str) = Lt := rfl
theorem ncs : ("abcdefghijklmnopqrstuvwxyz0123456789-" : PySem.Str) = Nz := rfl
theorem eqD_str (x y : PySem.Str) (M : Dt → Prop) : eqD (.str x) (.str y) M ↔ M (.bl (decide (x = y))) := Iff.rfl
end VL
/-! read_log, by data. -/
namespace VL
open PySem PySem.Spec PyProof.Rows L2 TL RX
open _root_.DK (Nz Lt Sl Bk Nl isNm isPath isShelf ShP numP stepB lockB num Lg wordsD logD headT rowsT readR readG readD)
theorem cutL_init {α : Type} (xs : List α) : cutL xs none (some (-1)) = xs.dropLast := by
  show (xs.drop 0).take ((if (-1 : Int) < 0 then ((-1 : Int) + (xs.length : Int)).toNat else min (-1 : Int).toNat xs.length) - 0) = _
  rw [if_pos (by decide), List.drop_zero, List.dropLast_eq_take]
  exact congrArg (fun n => xs.take n) (by omega)
theorem cutL_tail {α : Type} (xs : List α) : cutL xs (some 1) none = xs.tail := by
  show (xs.drop (HT.sIx xs.length 0 (some ((1 : Nat) : Int)))).take (HT.sIx xs.length xs.length none - HT.sIx xs.length 0 (some ((1 : Nat) : Int))) = _
  rw [HT.sIx_nat, HT.sIx_none]
  cases xs with
  | nil => rfl
  | cons x xs =>
    rw [Nat.min_eq_left (by rw [List.length_cons]; omega)]
    show xs.take _ = xs
    exact List.take_of_length_le (by rw [List.length_cons]; omega)
/-- what reading a text comes to, by its rows -/
theorem readD_rows {t : PySem.Str} {l0 : PySem.Str} {ls : List PySem.Str} (h : Txt.split t Nl = l0 :: ls) {R : List (List PySem.Str)} (hR : R = ls.map fun l => Txt.split l Bk) :
    readD t = match (if R ≠ [] ∧ l0 = headT (R.length - 1) then readR R else none) with | some g => logD g | none => .non := by
  unfold readD readG
  have : rowsT t = Txt.split l0 Bk :: R := by unfold rowsT; rw [h, hR]; rfl
  rw [this]
  have e : (R ≠ [] ∧ Txt.split l0 Bk = [("log" : PySem.Str), num ((R.length - 1 : Nat) : Int)]) ↔ (R ≠ [] ∧ l0 = headT (R.length - 1)) := and_congr_right fun _ => _root_.DK.head_line l0 (R.length - 1)
  show (match (if (R ≠ [] ∧ Txt.split l0 Bk = [("log" : PySem.Str), num ((R.length - 1 : Nat) : Int)]) then readR R else none) with | some g => logD g | none => .non) = _
  by_cases c : R ≠ [] ∧ l0 = headT (R.length - 1)
  · rw [if_pos c, if_pos (e.mpr c)]
  · rw [if_neg c, if_neg (fun z => c (e.mp z))]
theorem head_len {n : Nat} (h : n ≤ 900001) : (headT n).length ≤ 20 := by
  unfold headT
  rw [strLen_append]
  have : (num ((n : Nat) : Int)).length ≤ 7 := by
    rw [len_tl, show tl (num ((n : Nat) : Int)) = numL n from tl_num _]
    exact numL_len (by decide) (by omega)
  have e : ("log " : PySem.Str).length = 4 := by decide +kernel
  omega
end VL
/-! Trees on files. -/
namespace VL
open PySem PySem.Spec PyProof.Rows L2 TL RX
open _root_.DK (Fl fsD getF Ord get_mem get_none TrP treeF behind begins prF)
theorem treeF_len (F : Fl) : (treeF F).length ≤ F.length := by unfold treeF; rw [List.length_map]; exact List.length_filter_le _ _
theorem prF_snoc (F : Fl) (ys : List PySem.Str) (y : PySem.Str) : prF F (ys ++ [y]) = prF F ys ++ [(y, (getF F y).getD "")] := by unfold prF; rw [List.map_append]; rfl
theorem take_nd {α : Type} {l : List α} (h : l.Nodup) (i : Nat) : (l.take i).Nodup := (List.take_sublist i l).nodup h
abbrev N_tree_on : List PySem.Str := ["files", "path"]
abbrev P_tree_on : List PySem.Str := ["files"]
def T_tree_on : DS :=
  (dRet (vDc (viSeq (vCall sortedKD (vlCons (vVarC 0) vlNil))) (vName 1) (vBl (vMeth "str" startsD (vVarC 1) (vlCons (vConst (.str "tree/")) vlNil))) (vMeth "str" rempreD (vVarC 1) (vlCons (vConst (.str "tree/")) vlNil)) (vOp ixD (vVarC 0) (vVarC 1)) [1]))

def sp_tree_on : DSp := fun as M => ∃ F : Fl, as = [.d (fsD F)] ∧ (F.map (·.1)).Nodup ∧ F.length < 64 ∧ (∀ p ∈ F, p.1.length ≤ 1000000) ∧ ∀ G, Ord (treeF F) G → M (fsD G)
theorem len_tree_on {as : List Ar} {M : Dt → Prop} (h : sp_tree_on as M) : as.length = P_tree_on.length := by obtain ⟨_, rfl, _⟩ := h; rfl
theorem t_tree_on {as : List Ar} {M : Dt → Prop} (h : sp_tree_on as M) : T_tree_on { nx := fun _ => False, rt := M } (stEv N_tree_on as) := by
  obtain ⟨F, rfl, nd, few, kl, q⟩ := h
  refine ⟨by rw [List.length_map]; exact few, fun ys py so => ?_⟩
  have ny : ys.Nodup := py.nodup_iff.mpr nd
  have ly : ys.length < 64 := by rw [py.length_eq, List.length_map]; exact few
  refine ⟨fun i ks es => ks = (treeF (prF F (ys.take i))).map (·.1) ∧ es = (treeF (prF F (ys.take i))).map fun p => Dt.str p.2, ⟨rfl, rfl⟩, ?_, ?_⟩
  · rintro i d ks es hd ⟨rfl, rfl⟩
    obtain ⟨y, hy, rfl⟩ := mapAt hd
    obtain ⟨c, hc⟩ := mem_keys (py.mem_iff.mp (List.mem_of_getElem? hy))
    have yl : y.length ≤ 1000000 := kl _ (get_mem hc)
    have e1 := prF_snoc F (ys.take i) y
    rw [← take_snoc hy, hc] at e1
    have ta := _root_.DK.tree_app (prF F (ys.take i)) (y, c)
    rw [show prF F (ys.take i) ++ [(y, c)] = prF F (ys.take (i + 1)) from e1.symm] at ta
    have n1 : ((prF F (ys.take (i + 1))).map (·.1)).Nodup := by rw [_root_.DK.prF_keys]; exact take_nd ny _
    have tn := _root_.DK.tree_nd n1
    have tl1 := treeF_len (prF F (ys.take i))
    have pl : (prF F (ys.take i)).length ≤ 64 := by unfold prF; rw [List.length_map, List.length_take]; omega
    refine ⟨rfl, ?_⟩
    show if Txt.startswith y TrP = true then _ else _
    rw [_root_.DK.starts_eq]
    by_cases b : begins TrP y = true
    · refine iteP b ?_
      rw [if_pos b] at ta
      refine ⟨rfl, by rw [slz]; omega, .str c, by rw [look_fs, hc]; rfl, ?_⟩
      show _ < sizeLine ∧ _ = _ ∧ _ = _
      have er : Txt.removeprefix y TrP = behind TrP y := by rw [_root_.DK.remp_eq, if_pos b]
      have nin : behind TrP y ∉ (treeF (prF F (ys.take i))).map (·.1) := fun m => by
        rw [ta, List.map_append, List.nodup_append] at tn
        exact tn.2.2 _ m _ (List.mem_singleton.mpr rfl) rfl
      refine ⟨by rw [List.length_map, slz]; omega, ?_, ?_⟩
      · show keysP _ (Txt.removeprefix y TrP) = _
        rw [er, ta]
        unfold keysP; rw [if_neg nin, List.map_append]; rfl
      · show valsP _ _ (Txt.removeprefix y TrP) _ = _
        rw [er, ta]
        unfold valsP; rw [if_neg nin, List.map_append]; rfl
    · refine iteN b ?_
      rw [if_neg b] at ta
      show _ = _ ∧ _ = _
      rw [ta]
      exact ⟨rfl, rfl⟩
  · rintro ks es ⟨rfl, rfl⟩
    rw [List.length_map, List.take_length]
    exact q _ (_root_.DK.tree_ord nd (_root_.DK.prF_ord nd py so))
abbrev N__law_tree_on : List PySem.Str := ["files", "path"]
abbrev P__law_tree_on : List PySem.Str := ["files"]
def T__law_tree_on : DS :=
  (dRet (vCall pairsD (vlCons (vCall sortedPD (vlCons (vLc (viKeys 0) (vName 1) (vBl (vOp eqD (vSl slD (vVarC 1) vNoPart (vPart (vConst (.int 5)))) (vConst (.str "tree/")))) (vTup (vlCons (vSl slD (vVarC 1) (vPart (vConst (.int 5))) vNoPart) (vlCons (vOp ixD (vVarC 0) (vVarC 1)) vlNil))) [1]) vlNil)) vlNil)))

def sp__law_tree_on : DSp := fun as M => ∃ F : Fl, as = [.d (fsD F)] ∧ (F.map (·.1)).Nodup ∧ F.length ≤ 1000 ∧ (∀ p ∈ F, p.1.length ≤ 1000000) ∧ ∀ G, Ord (treeF F) G → M (fsD G)
theorem len__law_tree_on {as : List Ar} {M : Dt → Prop} (h : sp__law_tree_on as M) : as.length = P__law_tree_on.length := by obtain ⟨_, rfl, _⟩ := h; rfl
theorem t__law_tree_on {as : List Ar} {M : Dt → Prop} (h : sp__law_tree_on as M) : T__law_tree_on { nx := fun _ => False, rt := M } (stEv N__law_tree_on as) := by
  obtain ⟨F, rfl, nd, few, kl, q⟩ := h
  refine ⟨fun i acc => acc = (treeF (F.take i)).map cpD, rfl, ?_, ?_⟩
  · rintro i d acc hd rfl
    rw [List.map_map] at hd
    obtain ⟨p, hp, rfl⟩ := mapAt hd
    have pm := List.mem_of_getElem? hp
    have hc := _root_.DK.mem_get nd pm
    have yl := kl p pm
    have ta := _root_.DK.tree_app (F.take i) p
    rw [← take_snoc hp] at ta
    have tl1 := treeF_len (F.take i)
    have pl : (F.take i).length ≤ 1000 := by rw [List.length_take]; omega
    refine ⟨by show p.1.length ≤ _; rw [slz]; omega, ?_⟩
    show if decide (cutS p.1 none (some (TrP.length : Nat)) = TrP) = true then _ else _
    rw [cut_beginsS]
    by_cases b : begins TrP p.1 = true
    · refine iteP b ?_
      rw [if_pos b] at ta
      refine ⟨by show p.1.length ≤ _; rw [slz]; omega, .str p.2, ?_, by show 2 ≤ _; rw [slz]; decide, by rw [List.length_map, slz]; omega, ?_⟩
      · show lookD _ _ p.1 = _
        rw [look_fs, hc]; rfl
      show _ ++ [Dt.tup [.str (cutS p.1 (some (TrP.length : Nat)) none), .str p.2]] = _
      rw [_root_.DK.cut_behind, ta, List.map_append]; rfl
    · refine iteN b ?_
      rw [if_neg b] at ta
      show _ = _
      rw [ta]
  · rintro acc rfl
    rw [List.length_map, List.length_map, List.take_length]
    have tn := _root_.DK.tree_nd nd
    refine ⟨treeF F, rfl, fun G sG pG => ?_⟩
    have oG := _root_.DK.ord_sorted tn pG sG
    have nG : (G.map (·.1)).Nodup := (pG.map _).nodup_iff.mpr tn
    refine ⟨G.map fun p => (p.1, Dt.str p.2), by rw [List.map_map]; rfl, by rw [List.map_map]; exact nG, ?_⟩
    have := q G oG
    unfold fsD at this
    rw [List.map_map, List.map_map]
    exact this
end VL
/-! Deeds on files; what is to be kept. -/
namespace VL
open PySem PySem.Spec PyProof.Rows L2 TL RX
open _root_.DK (Fl fsD Tm tmS_of num numsF numW numP ShP getF dropF Ord mem_get get_mem get_none put_nd drop_nd get_put get_drop)
inductive Deed where
  | put (x c : PySem.Str)
  | drop (x : PySem.Str)
  | move (x y : PySem.Str)
def dD : Deed → Dt
  | .put x c => .tup [.str "put", .str x, .str c]
  | .drop x => .tup [.str "drop", .str x]
  | .move x y => .tup [.str "move", .str x, .str y]
def aft1 (F : Fl) : Deed → Fl
  | .put x c => _root_.DK.putF F x c
  | .drop x => dropF F x
  | .move x y => match getF F x with
    | some c => _root_.DK.putF (dropF F x) y c
    | none => F
def aft (F : Fl) (ds : List Deed) : Fl := ds.foldl aft1 F
theorem aft_app (F : Fl) (a b : List Deed) : aft F (a ++ b) = aft (aft F a) b := List.foldl_append
theorem drop_len (F : Fl) (x : PySem.Str) : (dropF F x).length ≤ F.length := List.length_filter_le _ _
theorem aft1_nd {F : Fl} (h : (F.map (·.1)).Nodup) : ∀ d, ((aft1 F d).map (·.1)).Nodup
  | .put x c => put_nd h _ _
  | .drop x => drop_nd h _
  | .move x y => by
    show (List.map (fun p : PySem.Str × PySem.Str => p.1) (match getF F x with | some c => _root_.DK.putF (dropF F x) y c | none => F)).Nodup
    cases getF F x with
    | some c => exact put_nd (drop_nd h _) _ _
    | none => exact h
theorem aft1_len (F : Fl) : ∀ d, (aft1 F d).length ≤ F.length + 1
  | .put x c => _root_.DK.put_len _ _ _
  | .drop x => Nat.le_succ_of_le (drop_len _ _)
  | .move x y => by
    show (match getF F x with | some c => _root_.DK.putF (dropF F x) y c | none => F).length ≤ _
    cases getF F x with
    | some c => have a := _root_.DK.put_len (dropF F x) y c; have b := drop_len F x; show (_root_.DK.putF (dropF F x) y c).length ≤ _; omega
    | none => exact Nat.le_succ _
theorem aft_len (F : Fl) : ∀ ds, (aft F ds).length ≤ F.length + ds.length
  | [] => Nat.le_refl _
  | d :: ds => by
    have := aft_len (aft1 F d) ds
    have := aft1_len F d
    rw [List.length_cons]
    show (aft (aft1 F d) ds).length ≤ _
    omega
theorem drop_absent {F : Fl} {x : PySem.Str} (h : x ∉ F.map (·.1)) : dropF F x = F := by
  refine List.filter_eq_self.mpr fun p hp => decide_eq_true fun e => h (e ▸ List.mem_map.mpr ⟨p, hp, rfl⟩)
theorem keysX_fs (F : Fl) (x : PySem.Str) : Dt.dic (keysX (F.map (·.1)) x) (valsX (F.map (·.1)) (F.map fun p => Dt.str p.2) x) = fsD (dropF F x) := by
  have e1 : keysX (F.map (·.1)) x = (dropF F x).map (·.1) := by
    unfold keysX dropF
    rw [List.filter_map]
    congr 1
    refine List.filter_congr fun p _ => ?_
    show (!decide (p.1 = x)) = decide (p.1 ≠ x)
    by_cases e : p.1 = x <;> simp [e]
  have e2 : valsX (F.map (·.1)) (F.map fun p => Dt.str p.2) x = (dropF F x).map fun p => Dt.str p.2 := by
    unfold valsX dropF
    induction F with
    | nil => rfl
    | cons p F ih =>
      rw [List.map_cons, List.map_cons, List.zip_cons_cons, List.filter_cons, List.filter_cons]
      by_cases e : p.1 = x
      · simp only [e, decide_true, Bool.not_true, ne_eq, not_true, decide_false, Bool.false_eq_true, if_false]
        rw [ih (by unfold keysX dropF; rw [List.filter_map]; congr 1; refine List.filter_congr fun p _ => ?_; show (!decide (p.1 = x)) = decide (p.1 ≠ x); by_cases e : p.1 = x <;> simp [e])]
      · simp only [e, decide_false, Bool.not_false, ne_eq, not_false_eq_true, decide_true, if_true, List.map_cons]
        rw [ih (by unfold keysX dropF; rw [List.filter_map]; congr 1; refine List.filter_congr fun p _ => ?_; show (!decide (p.1 = x)) = decide (p.1 ≠ x); by_cases e : p.1 = x <;> simp [e])]
  rw [e1, e2]; rfl
/-! ### _law_after -/
end VL
/-! What is to be put on shelves. -/
namespace VL
open PySem PySem.Spec PyProof.Rows L2 TL RX
open _root_.DK (Fl fsD Tm tmS_of num numsF numW numP ShP getF dropF Ord mem_get get_mem get_none put_nd drop_nd get_put get_drop)
def NEW : PySem.Str := "store/new"
theorem new_oth : NEW ∈ OTH := by decide +kernel
theorem sh_new {n : Nat} (h : n ≤ 300) : sh n ≠ NEW := fun e => by
  have a := (sh_ok n (by omega)).1
  rw [e, (oth_ok NEW new_oth).1] at a; cases a
/-- content that a shelf holds -/
def Shc (F : Fl) (c : PySem.Str) : Prop := ∃ n, n ≤ 300 ∧ getF F (sh n) = some c
/-- the least free number -/
def LF (F : Fl) (n : Nat) : Prop := n ≤ 300 ∧ sh n ∉ F.map (·.1) ∧ ∀ m, m < n → sh m ∈ F.map (·.1)
theorem LF.one {F : Fl} {m n : Nat} (a : LF F m) (b : LF F n) : m = n := by
  rcases Nat.lt_trichotomy m n with h | h | h
  · exact absurd (b.2.2 m h) a.2.1
  · exact h
  · exact absurd (a.2.2 n h) b.2.1
def two (c : PySem.Str) (n : Nat) : List Deed := [.put NEW c, .move NEW (sh n)]
inductive KD : Fl → List PySem.Str → List Deed → Prop
  | nil {F : Fl} : KD F [] []
  | held {F : Fl} {c : PySem.Str} {cs : List PySem.Str} {D : List Deed} : Shc F c → KD F cs D → KD F (c :: cs) D
  | new {F : Fl} {c : PySem.Str} {cs : List PySem.Str} {D : List Deed} {n : Nat} : ¬ Shc F c → LF F n → KD (aft F (two c n)) cs D → KD F (c :: cs) (two c n ++ D)
theorem KD.one {F : Fl} {cs : List PySem.Str} {D E : List Deed} (a : KD F cs D) (b : KD F cs E) : D = E := by
  induction a generalizing E with
  | nil => cases b; rfl
  | held h _ ih =>
    cases b with
    | held _ k => exact ih k
    | new n _ _ => exact absurd h n
  | new h l _ ih =>
    cases b with
    | held k _ => exact absurd k h
    | new _ l2 k =>
      have := l.one l2
      subst this
      rw [ih k]
theorem KD.held' {F : Fl} {cs : List PySem.Str} {D : List Deed} {c : PySem.Str} (a : KD F cs D) (h : Shc (aft F D) c) : KD F (cs ++ [c]) D := by
  induction a with
  | nil => exact .held h .nil
  | held k _ ih => exact .held k (ih h)
  | new k l _ ih => rw [aft_app] at h; exact .new k l (ih h)
theorem KD.new' {F : Fl} {cs : List PySem.Str} {D : List Deed} {c : PySem.Str} {n : Nat} (a : KD F cs D) (h : ¬ Shc (aft F D) c) (l : LF (aft F D) n) : KD F (cs ++ [c]) (D ++ two c n) := by
  induction a with
  | @nil F =>
    have := KD.new (show ¬ Shc F c from h) (show LF F n from l) (KD.nil (F := aft F (two c n)))
    rw [List.append_nil] at this
    exact this
  | held k _ ih => exact .held k (ih h l)
  | new k l0 _ ih => rw [aft_app] at h l; rw [List.append_assoc]; exact .new k l0 (ih h l)
theorem aft_two (F : Fl) (c : PySem.Str) (n : Nat) : aft F (two c n) = _root_.DK.putF (dropF (_root_.DK.putF F NEW c) NEW) (sh n) c := by
  show (match getF (_root_.DK.putF F NEW c) NEW with | some v => _root_.DK.putF (dropF (_root_.DK.putF F NEW c) NEW) (sh n) v | none => _root_.DK.putF F NEW c) = _
  rw [get_put, if_pos rfl]
theorem two_get (F : Fl) (c : PySem.Str) (n : Nat) (x : PySem.Str) : getF (aft F (two c n)) x = if x = sh n then some c else if x = NEW then none else getF F x := by
  rw [aft_two, get_put, get_drop]
  split
  · rfl
  · split
    · rfl
    · rw [get_put]; split
      · contradiction
      · rfl
theorem FsK.two {F : Fl} (h : FsK F) {c : PySem.Str} (hc : Tm 500 450 c) {n : Nat} (hn : n ≤ 300) (few : F.length < 59) : FsK (aft F (two c n)) := by
  rw [aft_two]
  have h1 := h.put (x := NEW) (c := c) (oth_ko new_oth) hc (by omega)
  have l1 := _root_.DK.put_len F NEW c
  have l2 := drop_len (_root_.DK.putF F NEW c) NEW
  have h2 : FsK (dropF (_root_.DK.putF F NEW c) NEW) := ⟨fun p hp => h1.k p (_root_.DK.drop_mem hp), fun p hp => h1.c p (_root_.DK.drop_mem hp), drop_nd h1.nd _, by omega⟩
  exact h2.put (sh_ko hn) hc (by omega)
theorem two_len (F : Fl) (c : PySem.Str) (n : Nat) : (aft F (two c n)).length ≤ F.length + 2 := by
  rw [aft_two]
  have l1 := _root_.DK.put_len F NEW c
  have l2 := drop_len (_root_.DK.putF F NEW c) NEW
  have l3 := _root_.DK.put_len (dropF (_root_.DK.putF F NEW c) NEW) (sh n) c
  omega
theorem key_iff {F : Fl} {x : PySem.Str} : x ∈ F.map (·.1) ↔ ∃ c, getF F x = some c := ⟨mem_keys, fun ⟨c, h⟩ => List.mem_map.mpr ⟨_, get_mem h, rfl⟩⟩
theorem two_key {F : Fl} {c : PySem.Str} {n m : Nat} (hm : m ≤ 300) (hn : n ≤ 300) : sh m ∈ (aft F (two c n)).map (·.1) ↔ m = n ∨ sh m ∈ F.map (·.1) := by
  rw [key_iff, two_get, key_iff]
  by_cases e : m = n
  · subst e; rw [if_pos rfl]; simp
  · rw [if_neg (fun z => e (sh_inj hm hn z)), if_neg (sh_new hm)]; simp [e]
theorem two_shc {F : Fl} {c d : PySem.Str} {n : Nat} (hn : n ≤ 300) (fr : sh n ∉ F.map (·.1)) : Shc (aft F (two c n)) d ↔ d = c ∨ Shc F d := by
  constructor
  · rintro ⟨m, hm, e⟩
    rw [two_get] at e
    split at e
    · exact .inl (Option.some.inj e).symm
    · rw [if_neg (sh_new hm)] at e; exact .inr ⟨m, hm, e⟩
  · rintro (rfl | ⟨m, hm, e⟩)
    · exact ⟨n, hn, by rw [two_get, if_pos rfl]⟩
    · refine ⟨m, hm, ?_⟩
      rw [two_get, if_neg, if_neg (sh_new hm)]
      · exact e
      · intro z
        rw [z] at e
        exact fr (key_iff.mpr ⟨_, e⟩)
theorem kl_shc {F : Fl} {ns : List Nat} (h : NS F ns) {G : Fl} (o : Ord (kl F ns []) G) (c : PySem.Str) : c ∈ G.map (·.1) ↔ Shc F c := by
  rw [(o.p.map (·.1)).mem_iff, kl_keys]
  constructor
  · rintro (h0 | ⟨n, hn, e⟩)
    · cases h0
    · obtain ⟨h1, h2⟩ := (h.mem n).mp hn
      obtain ⟨v, hv⟩ := mem_keys h2
      rw [hv] at e
      exact ⟨n, h1, by rw [hv]; exact congrArg some e⟩
  · rintro ⟨n, hn, e⟩
    exact .inr ⟨n, (h.mem n).mpr ⟨hn, key_iff.mpr ⟨c, e⟩⟩, by rw [e]; rfl⟩
theorem NS.bound {F : Fl} {ns : List Nat} (h : NS F ns) (k : FsK F) {j : Nat} (hj : ∀ m, m < j → m ∈ ns) : j ≤ 60 := by
  have := RX.nodup_le (xs := List.range j) (ys := ns) List.nodup_range fun x hx => hj x (List.mem_range.mp hx)
  rw [List.length_range] at this
  exact Nat.le_trans this (h.few k)
/-! ### _law_keeping -/
end VL
/-! keeping, unshelving. -/
namespace VL
open PySem PySem.Spec PyProof.Rows L2 TL RX
open _root_.DK (Fl fsD Tm tmS_of num numsF numW numP ShP getF dropF Ord mem_get get_mem get_none put_nd drop_nd get_put get_drop)
/-- a list or a tuple -/
def seqD : Bool → List Dt → Dt
  | true, ds => .tup ds
  | false, ds => .lst ds
/-! ### keeping -/
def truesD (hs : List PySem.Str) : Dt := .dic hs (hs.map fun _ => .bl true)
/-- what the loop over the contents knows -/
structure Kp (F : Fl) (cs : List PySem.Str) (D : List Deed) (k : Nat) (hs : List PySem.Str) (i : Nat) : Prop where
  kd : KD F cs D
  fk : FsK (aft F D)
  fl : (aft F D).length ≤ F.length + 2 * i
  dl : D.length ≤ 2 * i
  held : ∀ c, c ∈ hs ↔ Shc (aft F D) c
  hl : hs.length ≤ 60 + i
  lo : ∀ m, m < k → sh m ∈ (aft F D).map (·.1)
  up : ∀ m, k ≤ m → m ≤ 300 → (sh m ∈ (aft F D).map (·.1) ↔ sh m ∈ F.map (·.1))
  k6 : k ≤ 60
theorem low_bound {F : Fl} (h : FsK F) {j : Nat} (hj : j ≤ 300) (lo : ∀ m, m < j → sh m ∈ F.map (·.1)) : j ≤ 60 := by
  have nd : ((List.range j).map sh).Nodup := by
    rw [List.nodup_iff_pairwise_ne, List.pairwise_map]
    refine List.Pairwise.imp_of_mem (fun {a b} ha hb z e => ?_) (List.nodup_iff_pairwise_ne.mp List.nodup_range)
    exact z (sh_inj (by have := List.mem_range.mp ha; omega) (by have := List.mem_range.mp hb; omega) e)
  have := RX.nodup_le nd (ys := F.map (·.1)) fun x hx => by
    obtain ⟨n, hn, rfl⟩ := List.mem_map.mp hx
    exact lo n (List.mem_range.mp hn)
  rw [List.length_map, List.length_map, List.length_range] at this
  exact Nat.le_trans this h.few
end VL
/-! unshelving; alike. -/
namespace VL
open PySem PySem.Spec PyProof.Rows L2 TL RX
open _root_.DK (Fl fsD Tm tmS_of num numsF numW numP ShP getF dropF Ord mem_get get_mem get_none put_nd drop_nd get_put get_drop)
def dropsOf (F : Fl) (cs : List PySem.Str) (ns : List Nat) : List Deed := (ns.filter fun n => !decide ((getF F (sh n)).getD "" ∈ cs)).map fun n => .drop (sh n)
def unD (F : Fl) (cs : List PySem.Str) (ns : List Nat) : List Deed := dropsOf F cs ns ++ (if NEW ∈ F.map (·.1) then [.drop NEW] else [])
theorem dropsOf_snoc (F : Fl) (cs : List PySem.Str) (ns : List Nat) (n : Nat) : dropsOf F cs (ns ++ [n]) = dropsOf F cs ns ++ (if (getF F (sh n)).getD "" ∈ cs then [] else [.drop (sh n)]) := by
  unfold dropsOf
  rw [List.filter_append, List.map_append]
  congr 1
  by_cases h : (getF F (sh n)).getD "" ∈ cs
  · rw [if_pos h]; simp [h]
  · rw [if_neg h]; simp [h]
theorem dropsOf_len (F : Fl) (cs : List PySem.Str) (ns : List Nat) : (dropsOf F cs ns).length ≤ ns.length := by
  unfold dropsOf; rw [List.length_map]; exact List.length_filter_le _ _
/-! ### _law_unshelving -/
theorem eqv_one (a b : PySem.Str) : PyData.eqv (.str a) (.str b) = decide (a = b) := by
  have := eqv_dec [a] [b]
  simpa [PyData.eqvAll] using this
theorem any_strs (cs : List PySem.Str) (c : PySem.Str) : ((pyAll (cs.map Dt.str)).any fun z => PyData.eqv z (py (.str c))) = decide (c ∈ cs) := by
  rw [pyAll_strs]
  induction cs with
  | nil => simp
  | cons x cs ih =>
    rw [List.map_cons, List.any_cons, ih]
    show (PyData.eqv (.str x) (.str c) || decide (c ∈ cs)) = _
    rw [eqv_one]
    by_cases e : x = c
    · simp [e]
    · have : ¬ c = x := fun z => e z.symm
      simp [e, this]
theorem shp_str {c : PySem.Str} (h : OkS c) : shp (.str c) = true := by
  show SeqAt.shaped (.str c) = true
  unfold SeqAt.shaped
  rw [h.lay]
  rfl
/-! ### _law_alike -/
abbrev N__law_alike : List PySem.Str := ["found", "due"]
abbrev P__law_alike : List PySem.Str := ["found", "due"]
def T__law_alike : DS :=
  (dRet (vAndV (vOp eqSD (vVarC 0) (vVarC 1)) (vOp eqSD (vCall reprD (vlCons (vVarC 0) vlNil)) (vCall reprD (vlCons (vVarC 1) vlNil)))))

def sp__law_alike : DSp := fun as M => ∃ d : Dt, as = [.d d, .d d] ∧ Gd d ∧ M (.bl true)
theorem len__law_alike {as : List Ar} {M : Dt → Prop} (h : sp__law_alike as M) : as.length = P__law_alike.length := by obtain ⟨_, rfl, _⟩ := h; rfl
theorem t__law_alike {as : List Ar} {M : Dt → Prop} (h : sp__law_alike as M) : T__law_alike { nx := fun _ => M .non, rt := M } (stEv N__law_alike as) := by
  obtain ⟨d, rfl, G, q⟩ := h
  refine ⟨rfl, G.deep, ?_⟩
  exact ⟨G, G, rfl, by show 0 ≤ 59; decide, q⟩
end VL
/-! What deeds leave; data that prints within bounds. -/
namespace VL
open PySem PySem.Spec PyProof.Rows L2 TL RX
open _root_.DK (Fl fsD Tm tmS_of num numsF numW numP ShP getF dropF Ord mem_get get_mem get_none put_nd drop_nd get_put get_drop)
/-! ### small data -/
structure Sm (k n : Nat) (d : Dt) : Prop where
  fine : Fine d
  dep : d.dep ≤ k
  cost : d.cost ≤ n
theorem sg_tm {a g : Nat} {x : PySem.Str} (h : Tm a g x) (ha : a ≤ 1000000) : Sg x := OkS.sg (show OkS x from h.ok) (Nat.le_trans h.len ha)
theorem Sm.str {a g : Nat} {x : PySem.Str} (h : Tm a g x) (ha : a ≤ 1000000) : Sm 0 (10 * a + 10) (.str x) := ⟨.str x (sg_tm h ha), Nat.le_refl _, by show 10 * x.length + 10 ≤ _; have := h.len; omega⟩
theorem Sm.up {k n k' n' : Nat} {d : Dt} (h : Sm k n d) (a : k ≤ k') (b : n ≤ n') : Sm k' n' d := ⟨h.fine, Nat.le_trans h.dep a, Nat.le_trans h.cost b⟩
theorem smAll {k n : Nat} : ∀ {ds : List Dt}, (∀ d ∈ ds, Sm k n d) → FineAll ds ∧ Dt.depAll ds ≤ k ∧ Dt.costAll ds ≤ ds.length * n
  | [], _ => ⟨.nil, Nat.zero_le _, Nat.zero_le _⟩
  | d :: ds, h => by
    obtain ⟨a, b, c⟩ := smAll fun e he => h e (List.mem_cons_of_mem _ he)
    have hd := h d List.mem_cons_self
    refine ⟨.cons hd.fine a, ?_, ?_⟩
    · show max d.dep (Dt.depAll ds) ≤ k
      have := hd.dep; omega
    · show d.cost + Dt.costAll ds ≤ (ds.length + 1) * n
      have := hd.cost
      rw [Nat.add_mul, Nat.one_mul]; omega
theorem Sm.lst {k n m : Nat} {ds : List Dt} (h : ∀ d ∈ ds, Sm k n d) (l : ds.length ≤ m) : Sm (k + 1) (10 + m * n) (.lst ds) := by
  obtain ⟨a, b, c⟩ := smAll h
  have := Nat.mul_le_mul_right n l
  exact ⟨.lst a, Nat.succ_le_succ b, by show 10 + Dt.costAll ds ≤ _; omega⟩
theorem Sm.tup {k n m : Nat} {ds : List Dt} (h : ∀ d ∈ ds, Sm k n d) (l : ds.length ≤ m) : Sm (k + 1) (10 + m * n) (.tup ds) := by
  obtain ⟨a, b, c⟩ := smAll h
  have := Nat.mul_le_mul_right n l
  exact ⟨.tup a, Nat.succ_le_succ b, by show 10 + Dt.costAll ds ≤ _; omega⟩
theorem Sm.fs {F : Fl} {m a b g h : Nat} (k : ∀ p ∈ F, Tm a g p.1) (c : ∀ p ∈ F, Tm b h p.2) (l : F.length ≤ m) (ha : a ≤ 1000000) (hb : b ≤ 1000000) : Sm 1 (10 + m * (10 * a + 20) + m * (10 * b + 10)) (fsD F) := by
  have vs : ∀ d ∈ F.map (fun p => Dt.str p.2), Sm 0 (10 * b + 10) d := fun d hd => by
    obtain ⟨p, hp, rfl⟩ := List.mem_map.mp hd
    exact .str (c p hp) hb
  obtain ⟨x, y, z⟩ := smAll vs
  rw [List.length_map] at z
  have m1 := Nat.mul_le_mul_right (10 * b + 10) l
  refine ⟨.dic (fun k' hk => ?_) x, Nat.succ_le_succ y, ?_⟩
  · obtain ⟨p, hp, rfl⟩ := List.mem_map.mp hk
    exact sg_tm (k p hp) ha
  · show 10 + ((F.map (·.1)).map fun k => 10 * k.length + 20).sum + Dt.costAll (F.map fun p => Dt.str p.2) ≤ _
    have : ∀ F : Fl, (∀ p ∈ F, Tm a g p.1) → ((F.map (·.1)).map fun k => 10 * k.length + 20).sum ≤ F.length * (10 * a + 20) := by
      intro F
      induction F with
      | nil => intro _; exact Nat.zero_le _
      | cons p F ih =>
        intro h
        have i := ih fun q hq => h q (List.mem_cons_of_mem _ hq)
        have := (h p List.mem_cons_self).len
        rw [List.map_cons, List.map_cons, List.sum_cons, List.length_cons, Nat.add_mul, Nat.one_mul]
        omega
    have s := this F k
    have m2 := Nat.mul_le_mul_right (10 * a + 20) l
    omega
theorem Sm.gd {k n : Nat} {d : Dt} (h : Sm k n d) (hk : k ≤ 59) (hn : n ≤ 16000000) : Gd d := ⟨h.fine, Nat.le_trans h.dep hk, Nat.le_trans h.cost hn⟩
theorem FsK.sm {F : Fl} (h : FsK F) : Sm 1 700000 (fsD F) := (Sm.fs (fun p hp => (h.k p hp).tm) h.c h.few (by decide) (by decide)).up (Nat.le_refl _) (by decide)
/-! ### what is put on shelves -/
def DeedOk : Deed → Prop
  | .put x c => Tm 500 450 x ∧ Tm 500 450 c
  | .drop x => Tm 500 450 x
  | .move x y => Tm 500 450 x ∧ Tm 500 450 y
theorem DeedOk.sm : ∀ {d : Deed}, DeedOk d → Sm 1 16000 (dD d)
  | .put x c, h => (Sm.tup (k := 0) (n := 5010) (m := 3) (fun d hd => by
      simp only [List.mem_cons, List.not_mem_nil, or_false] at hd
      rcases hd with rfl | rfl | rfl
      · exact (Sm.str (tmS_of (n := 500) (g := 450) (by decide +kernel)) (by decide))
      · exact Sm.str h.1 (by decide)
      · exact Sm.str h.2 (by decide)) (Nat.le_refl _)).up (Nat.le_refl _) (by decide)
  | .drop x, h => (Sm.tup (k := 0) (n := 5010) (m := 3) (fun d hd => by
      simp only [List.mem_cons, List.not_mem_nil, or_false] at hd
      rcases hd with rfl | rfl
      · exact (Sm.str (tmS_of (n := 500) (g := 450) (by decide +kernel)) (by decide))
      · exact Sm.str h (by decide)) (by show 2 ≤ 3; decide)).up (Nat.le_refl _) (by decide)
  | .move x y, h => (Sm.tup (k := 0) (n := 5010) (m := 3) (fun d hd => by
      simp only [List.mem_cons, List.not_mem_nil, or_false] at hd
      rcases hd with rfl | rfl | rfl
      · exact (Sm.str (tmS_of (n := 500) (g := 450) (by decide +kernel)) (by decide))
      · exact Sm.str h.1 (by decide)
      · exact Sm.str h.2 (by decide)) (Nat.le_refl _)).up (Nat.le_refl _) (by decide)
theorem sh_tm {n : Nat} (h : n ≤ 300) : Tm 500 450 (sh n) := (tmS_of (sh_ok n (by omega)).2.2).up (by decide) (by decide)
theorem new_tm : Tm 500 450 NEW := tmS_of (by decide +kernel)
structure KdAll (F : Fl) (cs : List PySem.Str) (D : List Deed) : Prop where
  fk : FsK (aft F D)
  on : ∀ c ∈ cs, Shc (aft F D) c
  st : ∀ c, Shc F c → Shc (aft F D) c
  same : ∀ x ∈ F.map (·.1), x ≠ NEW → getF (aft F D) x = getF F x
  len : D.length ≤ 2 * cs.length
  ok : ∀ d ∈ D, DeedOk d
theorem KD.all {F : Fl} {cs : List PySem.Str} {D : List Deed} (h : KD F cs D) (fk : FsK F) (l : F.length + 2 * cs.length ≤ 58) (ct : ∀ c ∈ cs, Tm 500 450 c) : KdAll F cs D := by
  induction h with
  | nil => exact ⟨fk, (fun c hc => by cases hc), fun c h => h, fun _ _ _ => rfl, Nat.zero_le _, fun d hd => by cases hd⟩
  | @held F c cs D hs _ ih =>
    rw [List.length_cons] at l
    have A := ih fk (by omega) fun c hc => ct c (List.mem_cons_of_mem _ hc)
    have al := A.len
    refine ⟨A.fk, fun d hd => ?_, A.st, A.same, by rw [List.length_cons]; omega, A.ok⟩
    rcases List.mem_cons.mp hd with z | z
    · rw [z]; exact A.st c hs
    · exact A.on d z
  | @new F c cs D n nh lf _ ih =>
    rw [List.length_cons] at l
    have tc := ct c List.mem_cons_self
    have fk2 := fk.two tc lf.1 (by omega)
    have l2 := two_len F c n
    have A := ih fk2 (by omega) fun c hc => ct c (List.mem_cons_of_mem _ hc)
    have al := A.len
    have ts := fun d => two_shc (c := c) (d := d) lf.1 lf.2.1
    refine ⟨by rw [aft_app]; exact A.fk, fun d hd => ?_, fun d hd => ?_, fun x hx nx => ?_, by rw [List.length_append, List.length_cons]; show 2 + _ ≤ _; omega, fun d hd => ?_⟩
    · rw [aft_app]
      rcases List.mem_cons.mp hd with z | z
      · exact A.st d ((ts d).mpr (.inl z))
      · exact A.on d z
    · rw [aft_app]; exact A.st d ((ts d).mpr (.inr hd))
    · have e : getF (aft F (two c n)) x = getF F x := by rw [two_get, if_neg (fun z : x = sh n => lf.2.1 (by rw [← z]; exact hx)), if_neg nx]
      rw [aft_app, A.same x (key_iff.mpr (by rw [e]; exact key_iff.mp hx)) nx, e]
    · rcases List.mem_append.mp hd with z | z
      · rcases List.mem_cons.mp z with z | z
        · rw [z]; exact ⟨new_tm, tc⟩
        · rw [List.mem_singleton.mp z]; exact ⟨new_tm, sh_tm lf.1⟩
      · exact A.ok d z
/-! ### what is dropped -/
def unX (F : Fl) (cs : List PySem.Str) (ns : List Nat) : List PySem.Str := ((ns.filter fun n => !decide ((getF F (sh n)).getD "" ∈ cs)).map sh) ++ (if NEW ∈ F.map (·.1) then [NEW] else [])
theorem unD_eq (F : Fl) (cs : List PySem.Str) (ns : List Nat) : unD F cs ns = (unX F cs ns).map Deed.drop := by
  unfold unD unX dropsOf
  rw [List.map_append, List.map_map]
  congr 1
  split <;> rfl
theorem aft_drops (xs : List PySem.Str) : ∀ F : Fl, (∀ x, getF (aft F (xs.map Deed.drop)) x = if x ∈ xs then none else getF F x) ∧ (aft F (xs.map Deed.drop)).Sublist F := by
  induction xs with
  | nil => intro F; exact ⟨fun x => by simp [aft], List.Sublist.refl _⟩
  | cons y xs ih =>
    intro F
    obtain ⟨a, b⟩ := ih (dropF F y)
    refine ⟨fun x => ?_, b.trans List.filter_sublist⟩
    show getF (aft (dropF F y) (xs.map Deed.drop)) x = _
    rw [a, get_drop]
    by_cases e : x ∈ xs
    · rw [if_pos e, if_pos (List.mem_cons_of_mem _ e)]
    · by_cases z : x = y
      · rw [if_neg e, if_pos z, if_pos (by rw [z]; exact List.mem_cons_self)]
      · rw [if_neg e, if_neg z, if_neg (fun m => (List.mem_cons.mp m).elim z e)]
theorem FsK.sub {F G : Fl} (h : FsK F) (s : G.Sublist F) : FsK G := ⟨fun p hp => h.k p (s.subset hp), fun p hp => h.c p (s.subset hp), (s.map _).nodup h.nd, Nat.le_trans s.length_le h.few⟩
structure UnAll (F : Fl) (cs : List PySem.Str) (ns : List Nat) : Prop where
  fk : FsK (aft F (unD F cs ns))
  on : ∀ c, Shc (aft F (unD F cs ns)) c ↔ Shc F c ∧ c ∈ cs
  len : (unD F cs ns).length ≤ 61
  ok : ∀ d ∈ unD F cs ns, DeedOk d
theorem un_all {F : Fl} (fk : FsK F) (cs : List PySem.Str) {ns : List Nat} (hn : NS F ns) : UnAll F cs ns := by
  obtain ⟨g, s⟩ := aft_drops (unX F cs ns) F
  have ln := hn.few fk
  have mem : ∀ n, n ≤ 300 → (sh n ∈ unX F cs ns ↔ n ∈ ns ∧ (getF F (sh n)).getD "" ∉ cs) := fun n h3 => by
    unfold unX
    rw [List.mem_append, List.mem_map]
    constructor
    · rintro (⟨m, hm, e⟩ | h)
      · obtain ⟨m1, m2⟩ := List.mem_filter.mp hm
        have := sh_inj ((hn.mem m).mp m1).1 h3 e
        subst this
        exact ⟨m1, by simpa using m2⟩
      · split at h
        · exact absurd (List.mem_singleton.mp h) (sh_new h3)
        · cases h
    · rintro ⟨m1, m2⟩
      exact .inl ⟨n, List.mem_filter.mpr ⟨m1, by simpa using m2⟩, rfl⟩
  refine ⟨by rw [unD_eq]; exact fk.sub s, fun c => ?_, ?_, fun d hd => ?_⟩
  · rw [unD_eq]
    constructor
    · rintro ⟨n, h3, e⟩
      rw [g] at e
      split at e
      · cases e
      · next ni =>
        refine ⟨⟨n, h3, e⟩, ?_⟩
        by_cases z : c ∈ cs
        · exact z
        · exact absurd ((mem n h3).mpr ⟨(hn.mem n).mpr ⟨h3, key_iff.mpr ⟨c, e⟩⟩, by rw [e]; exact z⟩) ni
    · rintro ⟨⟨n, h3, e⟩, z⟩
      refine ⟨n, h3, ?_⟩
      rw [g, if_neg, e]
      intro m
      have := ((mem n h3).mp m).2
      rw [e] at this
      exact this z
  · unfold unD
    rw [List.length_append]
    have := dropsOf_len F cs ns
    have : (if NEW ∈ F.map (·.1) then [Deed.drop NEW] else []).length ≤ 1 := by split <;> simp
    omega
  · rw [unD_eq] at hd
    obtain ⟨x, hx, rfl⟩ := List.mem_map.mp hd
    unfold unX at hx
    rcases List.mem_append.mp hx with h | h
    · obtain ⟨n, hm, rfl⟩ := List.mem_map.mp h
      exact sh_tm ((hn.mem n).mp (List.mem_filter.mp hm).1).1
    · split at h
      · rw [List.mem_singleton.mp h]; exact new_tm
      · cases h
theorem neD_self {zs : List PySem.Str} {M : Dt → Prop} (h : ∀ z ∈ zs, OkS z) (k : M (.bl false)) : neD (.lst (zs.map Dt.str)) (.lst (zs.map Dt.str)) M := by
  cases zs with
  | nil => exact k
  | cons z zs =>
    refine ⟨shp_strs h, shp_strs h, ?_⟩
    have e : PyData.eqv (py (.lst ((z :: zs).map Dt.str))) (py (.lst ((z :: zs).map Dt.str))) = true := by
      show PyData.eqvAll (pyAll ((z :: zs).map Dt.str)) (pyAll ((z :: zs).map Dt.str)) = true
      rw [pyAll_strs]
      exact (eqv_strs _ _).mpr rfl
    rw [e]
    exact k
theorem fs_len {F : Fl} (h : FsK F) : (F.map (·.1)).length ≤ 60 := by rw [List.length_map]; exact h.few
theorem kl_mem (F : Fl) : ∀ (ns : List Nat) (L : Fl) (p : PySem.Str × PySem.Str), p ∈ kl F ns L → p ∈ L ∨ ∃ n ∈ ns, p = ((getF F (sh n)).getD "", sh n)
  | [], L, p, h => .inl h
  | n :: ns, L, p, h => by
    rcases kl_mem F ns _ p h with z | ⟨m, hm, e⟩
    · split at z
      · exact .inl z
      · rcases List.mem_append.mp z with z | z
        · exact .inl z
        · exact .inr ⟨n, List.mem_cons_self, List.mem_singleton.mp z⟩
    · exact .inr ⟨m, List.mem_cons_of_mem _ hm, e⟩
end VL
/-! Trees of plans. -/
namespace VL
open PySem PySem.Spec PyProof.Rows L2 TL RX
open _root_.DK (Fl fsD getF putF Ord get_mem get_none mem_get get_perm get_put perm_get put_nd put_new Vs verD Pl plD etD PlOk Pk regD RgOk PkOk pkD ftD PNM ODC somP cpD Tm tmS_of prF prF_ord)
def pyV (v : List Int) : PyData := .tuple (v.map PyData.int)
theorem py_ints : ∀ v : List Int, pyAll (v.map Dt.int) = v.map PyData.int
  | [] => rfl
  | i :: v => by show PyData.int i :: pyAll (v.map Dt.int) = _; rw [py_ints v]; rfl
theorem py_ver (v : List Int) : py (verD v) = pyV v := by show PyData.tuple (pyAll (v.map Dt.int)) = _; rw [py_ints]; rfl
theorem eqv_int (i j : Int) : PyData.eqv (.int i) (.int j) = decide (i = j) := by
  show (i == j) = _
  by_cases e : i = j
  · rw [e, decide_eq_true rfl]; exact beq_self_eq_true j
  · rw [decide_eq_false e]; exact beq_eq_false_iff_ne.mpr e
theorem eqv_ints : ∀ v w : List Int, PyData.eqvAll (v.map PyData.int) (w.map PyData.int) = decide (v = w)
  | [], [] => by decide
  | [], _ :: _ => by simp [PyData.eqvAll]
  | _ :: _, [] => by simp [PyData.eqvAll]
  | i :: v, j :: w => by
    show (PyData.eqv (.int i) (.int j) && PyData.eqvAll (v.map PyData.int) (w.map PyData.int)) = _
    rw [eqv_int, eqv_ints v w, ← Bool.decide_and]
    exact decide_eq_decide.mpr ⟨fun h => by rw [h.1, h.2], fun h => by injection h with a b; exact ⟨a, b⟩⟩
theorem eqv_ver (v w : List Int) : PyData.eqv (py (verD v)) (py (verD w)) = decide (v = w) := by
  rw [py_ver, py_ver]
  exact eqv_ints v w
theorem lay_ints : ∀ v : List Int, PyData.canLayAll0 (v.map PyData.int) = true ∧ PyData.depthAll (v.map PyData.int) = 0
  | [] => ⟨rfl, rfl⟩
  | i :: v => by
    obtain ⟨a, b⟩ := lay_ints v
    refine ⟨?_, ?_⟩
    · show ((PyData.int i).canLay0 && PyData.canLayAll0 (v.map PyData.int)) = true
      rw [a]; rfl
    · show max 0 (PyData.depthAll (v.map PyData.int)) = 0
      rw [b]; rfl
theorem shp_ver (v : List Int) : shp (verD v) = true := by
  obtain ⟨a, b⟩ := lay_ints v
  unfold shp
  rw [py_ver]
  unfold SeqAt.shaped
  have c2 : (pyV v).depth = 1 := by show PyData.depthAll (v.map PyData.int) + 1 = 1; rw [b]
  have c1 : (pyV v).canLay0 = true := a
  rw [c1, c2]; rfl
theorem shp_nv {n : PySem.Str} (hn : OkS n) (v : List Int) : shp (.tup [.str n, verD v]) = true := by
  obtain ⟨a, b⟩ := lay_ints v
  unfold shp SeqAt.shaped
  have e : py (.tup [.str n, verD v]) = .tuple [.str n, pyV v] := by show PyData.tuple [.str n, py (verD v)] = _; rw [py_ver]
  rw [e]
  have c1 : (PyData.tuple [.str n, pyV v]).canLay0 = true := by
    show ((PyData.str n).canLay0 && ((pyV v).canLay0 && true)) = true
    rw [hn.lay, show (pyV v).canLay0 = true from a]; rfl
  have c2 : (PyData.tuple [.str n, pyV v]).depth = 2 := by
    show max 0 (max (PyData.depthAll (v.map PyData.int) + 1) 0) + 1 = 2
    rw [b]; rfl
  rw [c1, c2]; rfl
theorem eqv_nv (n m : PySem.Str) (v w : List Int) : PyData.eqv (py (.tup [.str n, verD v])) (py (.tup [.str m, verD w])) = (decide (n = m) && decide (v = w)) := by
  have e : ∀ (n : PySem.Str) (v : List Int), py (.tup [.str n, verD v]) = .tuple [.str n, pyV v] := fun n v => by show PyData.tuple [.str n, py (verD v)] = _; rw [py_ver]
  rw [e, e]
  show (PyData.eqv (.str n) (.str m) && (PyData.eqv (pyV v) (pyV w) && true)) = _
  rw [eqv_one, Bool.and_true]
  congr 1
  exact eqv_ints v w
/-! ### merging files -/
def mrg (F E : Fl) : Fl := E.foldl (fun F p => putF F p.1 p.2) F
theorem merge_fs : ∀ (E F : Fl), mergeD (F.map (·.1)) (F.map fun p => Dt.str p.2) (E.map (·.1)) (E.map fun p => Dt.str p.2) = fsD (mrg F E)
  | [], F => rfl
  | p :: E, F => by
    have h := fsD_put F p.1 p.2
    unfold fsD at h
    injection h with h1 h2
    show mergeD (keysP (F.map (·.1)) p.1) (valsP (F.map (·.1)) (F.map fun p => Dt.str p.2) p.1 (.str p.2)) (E.map (·.1)) (E.map fun p => Dt.str p.2) = _
    rw [h1, h2]
    exact merge_fs E (putF F p.1 p.2)
theorem mrg_app : ∀ (E F : Fl), ((F ++ E).map (·.1)).Nodup → mrg F E = F ++ E
  | [], F, _ => (List.append_nil F).symm
  | p :: E, F, h => by
    have h2 : ((F ++ [p] ++ E).map (·.1)).Nodup := by rw [List.append_assoc]; exact h
    have n : p.1 ∉ F.map (·.1) := fun m => by
      rw [List.map_append, List.nodup_append] at h
      exact h.2.2 _ m _ (List.mem_cons_self) rfl
    show mrg (putF F p.1 p.2) E = _
    rw [put_new n, mrg_app E _ h2, List.append_assoc]; rfl
/-! ### the tree of a plan, purely -/
def inPl (L : Pl) (p : Pk) : Bool := L.any fun e => decide (e.1 = p.nm) && decide (e.2.1 = p.vs)
def TO (R : List Pk) (L : Pl) : Fl := (R.filter (inPl L)).flatMap (·.fs)
def pkOf (R : List Pk) (n : PySem.Str) (v : List Int) : Option Pk := R.find? fun p => decide (p.nm = n) && decide (p.vs = v)
theorem som_apart : ∀ n ∈ PNM, ∀ m ∈ PNM, n ≠ m → ∀ x ∈ somP n, x ∉ somP m := by decide +kernel
theorem som_tm : ∀ n ∈ PNM, ∀ x ∈ somP n, _root_.DK.tmS 12 0 x = true := by decide +kernel
theorem odc_tm : ∀ x ∈ ODC, _root_.DK.tmS 25 5 x = true := by decide +kernel
section
variable {R : List Pk} {L : Pl}
theorem pl_fn {L : Pl} (nd : (L.map (·.1)).Nodup) {e f : PySem.Str × List Int × Bool} (he : e ∈ L) (hf : f ∈ L) (h : e.1 = f.1) : e = f := by
  induction L with
  | nil => cases he
  | cons a L ih =>
    rw [List.map_cons, List.nodup_cons] at nd
    rcases List.mem_cons.mp he with z | z
    · rcases List.mem_cons.mp hf with y | y
      · rw [z, y]
      · exact absurd (List.mem_map.mpr ⟨f, y, by rw [← h, z]⟩) nd.1
    · rcases List.mem_cons.mp hf with y | y
      · exact absurd (List.mem_map.mpr ⟨e, z, by rw [h, y]⟩) nd.1
      · exact ih nd.2 z y
theorem inPl_iff {L : Pl} {p : Pk} : inPl L p = true ↔ ∃ e ∈ L, e.1 = p.nm ∧ e.2.1 = p.vs := by
  unfold inPl
  rw [List.any_eq_true]
  constructor
  · rintro ⟨e, he, h⟩
    rw [Bool.and_eq_true, decide_eq_true_eq, decide_eq_true_eq] at h
    exact ⟨e, he, h⟩
  · rintro ⟨e, he, h1, h2⟩
    exact ⟨e, he, by rw [h1, h2]; simp⟩
theorem rg_one (hR : RgOk R) {p q : Pk} (hp : p ∈ R) (hq : q ∈ R) (h1 : p.nm = q.nm) (h2 : p.vs = q.vs) : p = q := by
  have nd := hR.nd
  revert hp hq nd
  generalize R = S
  intro hp hq nd
  induction S with
  | nil => cases hp
  | cons a S ih =>
    rw [List.map_cons, List.nodup_cons] at nd
    rcases List.mem_cons.mp hp with z | z
    · rcases List.mem_cons.mp hq with y | y
      · rw [z, y]
      · exact absurd (List.mem_map.mpr ⟨q, y, by rw [← h1, ← h2, z]⟩) nd.1
    · rcases List.mem_cons.mp hq with y | y
      · exact absurd (List.mem_map.mpr ⟨p, z, by rw [h1, h2, y]⟩) nd.1
      · exact ih z y nd.2
/-- files of packs of different names are at different paths -/
theorem flat_nd {S : List Pk} (ok : ∀ p ∈ S, PkOk p) (nd : (S.map (·.nm)).Nodup) : ((S.flatMap (·.fs)).map (·.1)).Nodup := by
  induction S with
  | nil => exact List.nodup_nil
  | cons p S ih =>
    rw [List.map_cons, List.nodup_cons] at nd
    rw [List.flatMap_cons, List.map_append]
    have okp := ok p List.mem_cons_self
    refine List.nodup_append.mpr ⟨okp.pt.1, ih (fun q hq => ok q (List.mem_cons_of_mem _ hq)) nd.2, fun x hx y hy e => ?_⟩
    obtain ⟨c, hc, rfl⟩ := List.mem_map.mp hx
    obtain ⟨d, hd, rfl⟩ := List.mem_map.mp hy
    obtain ⟨q, hq, hd⟩ := List.mem_flatMap.mp hd
    have okq := ok q (List.mem_cons_of_mem _ hq)
    refine som_apart p.nm okp.nm q.nm okq.nm (fun z => nd.1 (by rw [z]; exact List.mem_map.mpr ⟨q, hq, rfl⟩)) c.1 (okp.pt.2 c hc).1 ?_
    rw [e]
    exact (okq.pt.2 d hd).1
theorem sel_nd (hR : RgOk R) (nd : (L.map (·.1)).Nodup) : ((R.filter (inPl L)).map (·.nm)).Nodup := by
  have key : ∀ S : List Pk, S.Sublist R → ((S.filter (inPl L)).map (·.nm)).Nodup := by
    intro S
    induction S with
    | nil => intro _; exact List.nodup_nil
    | cons p S ih =>
      intro sub
      have ih := ih ((List.sublist_cons_self p S).trans sub)
      by_cases h : inPl L p = true
      · rw [List.filter_cons_of_pos h, List.map_cons]
        refine List.nodup_cons.mpr ⟨fun m => ?_, ih⟩
        obtain ⟨q, hq, e⟩ := List.mem_map.mp m
        obtain ⟨hq, hl⟩ := List.mem_filter.mp hq
        obtain ⟨a, ha, a1, a2⟩ := inPl_iff.mp h
        obtain ⟨b, hb, b1, b2⟩ := inPl_iff.mp hl
        have := pl_fn nd ha hb (by rw [a1, b1, e])
        subst this
        have pq := rg_one hR (sub.subset List.mem_cons_self) (sub.subset (List.mem_cons_of_mem _ hq)) e.symm (by rw [← a2, ← b2])
        subst pq
        have sn := (sub.map fun p : Pk => (p.nm, p.vs)).nodup hR.nd
        rw [List.map_cons, List.nodup_cons] at sn
        exact sn.1 (List.mem_map.mpr ⟨p, hq, rfl⟩)
      · rw [List.filter_cons_of_neg h]
        exact ih
  exact key R (List.Sublist.refl R)
theorem TO_nd (hR : RgOk R) (nd : (L.map (·.1)).Nodup) : ((TO R L).map (·.1)).Nodup := flat_nd (fun p hp => hR.all p (List.mem_filter.mp hp).1) (sel_nd hR nd)
theorem flat_len {S : List Pk} (ok : ∀ p ∈ S, PkOk p) : (S.flatMap (·.fs)).length ≤ S.length * 4 := by
  induction S with
  | nil => exact Nat.zero_le _
  | cons p S ih =>
    rw [List.flatMap_cons, List.length_append, List.length_cons, Nat.succ_mul]
    have := ih fun q hq => ok q (List.mem_cons_of_mem _ hq)
    have := (ok p List.mem_cons_self).few
    omega
theorem TO_len (hR : RgOk R) (nd : (L.map (·.1)).Nodup) : (TO R L).length ≤ 12 := by
  have l1 := flat_len (S := R.filter (inPl L)) fun p hp => hR.all p (List.mem_filter.mp hp).1
  have l2 := RX.nodup_le (sel_nd hR nd) (ys := PNM) fun x hx => by
    obtain ⟨p, hp, rfl⟩ := List.mem_map.mp hx
    exact (hR.all p (List.mem_filter.mp hp).1).nm
  rw [List.length_map] at l2
  have : PNM.length = 3 := rfl
  unfold TO
  omega
theorem TO_tm (hR : RgOk R) : ∀ q ∈ TO R L, Tm 12 0 q.1 ∧ Tm 25 5 q.2 := fun q hq => by
  obtain ⟨p, hp, hq⟩ := List.mem_flatMap.mp hq
  have ok := hR.all p (List.mem_filter.mp hp).1
  exact ⟨tmS_of (som_tm p.nm ok.nm q.1 (ok.pt.2 q hq).1), tmS_of (odc_tm q.2 (ok.pt.2 q hq).2)⟩
/-- packs in the order of a plan -/
theorem TO_perm (hR : RgOk R) (nd : (L.map (·.1)).Nodup) {S : List Pk} (nS : (S.map (·.nm)).Nodup) (h : ∀ p, p ∈ S ↔ p ∈ R ∧ inPl L p = true) : (S.flatMap (·.fs)).Perm (TO R L) := by
  have : S.Perm (R.filter (inPl L)) := by
    refine (List.perm_ext_iff_of_nodup ?_ ?_).mpr fun p => (h p).trans List.mem_filter.symm
    · exact List.Pairwise.of_map _ (fun a b e z => e (by rw [z])) nS
    · exact List.Pairwise.of_map _ (fun a b e z => e (by rw [z])) (sel_nd hR nd)
  exact this.flatMap_right _
end
abbrev N_pack_of : List PySem.Str := ["registry", "name", "version", "pack"]
abbrev P_pack_of : List PySem.Str := ["registry", "name", "version"]
def T_pack_of : DS :=
  (dSeq (dFor (viSeq (vOp ixD (vVarC 0) (vConst (.int 0)))) (vName 3)
  (dIf (vBl (vOp eqD (vSl slD (vVarC 3) vNoPart (vPart (vConst (.int 2)))) (vTup (vlCons (vVar 1) (vlCons (vVar 2) vlNil)))))
  (dRet (vVar 3))
  dNext))
  (dRet (vConst .non)))

def sp_pack_of : DSp := fun as M => ∃ (R : List Pk) (n : PySem.Str) (v : List Int), as = [.d (regD R), .d (.str n), .d (verD v)] ∧ RgOk R ∧ OkS n ∧ (∀ p ∈ R, p.nm = n → p.vs = v → M (pkD p)) ∧ ((∀ p ∈ R, ¬ (p.nm = n ∧ p.vs = v)) → M .non)
theorem len_pack_of {as : List Ar} {M : Dt → Prop} (h : sp_pack_of as M) : as.length = P_pack_of.length := by obtain ⟨_, _, _, rfl, _⟩ := h; rfl
theorem nm_tm : ∀ n ∈ PNM, _root_.DK.tmS 6 0 n = true := by decide +kernel
theorem t_pack_of {as : List Ar} {M : Dt → Prop} (h : sp_pack_of as M) : T_pack_of { nx := fun _ => M .non, rt := M } (stEv N_pack_of as) := by
  obtain ⟨R, n, v, rfl, hR, hn, q1, q2⟩ := h
  refine ⟨.tup (R.map pkD), rfl, ?_⟩
  refine ⟨fun i ρ => ∃ a, ρ = [some (.d (regD R)), some (.d (.str n)), some (.d (verD v)), a] ∧ ∀ p ∈ R.take i, ¬ (p.nm = n ∧ p.vs = v), ⟨_, rfl, fun p hp => by cases hp⟩, ?_, ?_⟩
  · rintro i d ρ hd ⟨a, rfl, no⟩
    obtain ⟨p, hp, rfl⟩ := mapAt hd
    have pm := List.mem_of_getElem? hp
    have okn : OkS p.nm := (tmS_of (nm_tm _ (hR.all p pm).nm)).ok
    refine ⟨by show 2 ≤ _; rw [slz]; decide, ?_⟩
    show shp (.tup [.str p.nm, verD p.vs]) = true ∧ shp (.tup [.str n, verD v]) = true ∧ (if PyData.eqv (py (.tup [.str p.nm, verD p.vs])) (py (.tup [.str n, verD v])) = true then _ else _)
    refine ⟨shp_nv okn _, shp_nv hn _, ?_⟩
    rw [eqv_nv]
    by_cases e : p.nm = n ∧ p.vs = v
    · refine iteP (by rw [decide_eq_true e.1, decide_eq_true e.2]; rfl) ?_
      exact q1 p pm e.1 e.2
    · refine iteN (fun z => ?_) ?_
      · rw [Bool.and_eq_true, decide_eq_true_eq, decide_eq_true_eq] at z
        exact e z
      · refine ⟨_, rfl, fun r hr => ?_⟩
        rw [take_snoc hp] at hr
        rcases List.mem_append.mp hr with z | z
        · exact no r z
        · rw [List.mem_singleton.mp z]; exact e
  · rintro ρ ⟨a, rfl, no⟩
    rw [List.length_map, List.take_length] at no
    exact q2 no
abbrev N_files_of : List PySem.Str := ["pack"]
abbrev P_files_of : List PySem.Str := ["pack"]
def T_files_of : DS :=
  (dRet (vCall pairsD (vlCons (vOp ixD (vVarC 0) (vConst (.int 7))) vlNil)))

def sp_files_of : DSp := fun as M => ∃ p : Pk, as = [.d (pkD p)] ∧ PkOk p ∧ M (fsD p.fs)
theorem len_files_of {as : List Ar} {M : Dt → Prop} (h : sp_files_of as M) : as.length = P_files_of.length := by obtain ⟨_, rfl, _⟩ := h; rfl
theorem t_files_of {as : List Ar} {M : Dt → Prop} (h : sp_files_of as M) : T_files_of { nx := fun _ => False, rt := M } (stEv N_files_of as) := by
  obtain ⟨p, rfl, ok, q⟩ := h
  refine ⟨.fup (p.fs.map cpD), rfl, p.fs.map fun c => (c.1, Dt.str c.2), by rw [List.map_map]; rfl, by rw [List.map_map]; exact ok.pt.1, ?_⟩
  rw [List.map_map, List.map_map]
  exact q
abbrev N_tree_of : List PySem.Str := ["registry", "plan", "found", "name", "path"]
abbrev P_tree_of : List PySem.Str := ["registry", "plan"]
def T_tree_of : DS :=
  (dSeq (dSetO 2 vNewD)
  (dSeq (dFor (viSeq (vCall sortedKD (vlCons (vVarC 1) vlNil))) (vName 3)
  (dMu 2 "dict" updateD (vlCons (vDef sp_files_of (vaD (vDef sp_pack_of (vaD (vVar 0) (vaD (vVar 3) (vaD (vOp ixD (vOp ixD (vVarC 1) (vVarC 3)) (vConst (.int 0))) vaNil)))) vaNil)) vlNil)))
  (dRet (vDc (viSeq (vCall sortedKD (vlCons (vVarC 2) vlNil))) (vName 4) vYes (vVar 4) (vOp ixD (vVarC 2) (vVarC 4)) [4]))))

def sp_tree_of : DSp := fun as M => ∃ (R : List Pk) (L : Pl), as = [.d (regD R), .d (plD L)] ∧ RgOk R ∧ PlOk R L ∧ ∀ G, Ord (TO R L) G → M (fsD G)
theorem len_tree_of {as : List Ar} {M : Dt → Prop} (h : sp_tree_of as M) : as.length = P_tree_of.length := by obtain ⟨_, _, rfl, _⟩ := h; rfl
theorem look_pl {L : Pl} (nd : (L.map (·.1)).Nodup) {e : PySem.Str × List Int × Bool} (he : e ∈ L) : lookD (L.map (·.1)) (L.map fun e => etD e.2) e.1 = some (etD e.2) := by
  induction L with
  | nil => cases he
  | cons a L ih =>
    rw [List.map_cons, List.nodup_cons] at nd
    show (if a.1 = e.1 then some (etD a.2) else lookD (L.map (·.1)) (L.map fun e => etD e.2) e.1) = _
    rcases List.mem_cons.mp he with z | z
    · rw [if_pos (by rw [z]), z]
    · rw [if_neg (fun y => nd.1 (by rw [y]; exact List.mem_map.mpr ⟨e, z, rfl⟩)), ih nd.2 z]
theorem sub_fs (G : Fl) {ys : List PySem.Str} {i : Nat} (hi : i ≤ ys.length) : True := trivial
/-- a dict comprehension over the sorted keys of files -/
theorem t_sorted_copy {F : Fl} {ys : List PySem.Str} (ny : ys.Nodup) {i : Nat} {y c : PySem.Str} (hy : ys[i]? = some y) (hc : getF F y = some c) :
    keysP ((prF F (ys.take i)).map (·.1)) y = (prF F (ys.take (i + 1))).map (·.1) ∧ valsP ((prF F (ys.take i)).map (·.1)) ((prF F (ys.take i)).map fun p => Dt.str p.2) y (.str c) = (prF F (ys.take (i + 1))).map fun p => Dt.str p.2 := by
  have nin : y ∉ (prF F (ys.take i)).map (·.1) := by rw [_root_.DK.prF_keys]; exact nd_take ny hy
  rw [take_snoc hy, prF_snoc, hc]
  unfold keysP valsP
  rw [if_neg nin, if_neg nin, List.map_append, List.map_append]
  exact ⟨rfl, rfl⟩
theorem t_tree_of {as : List Ar} {M : Dt → Prop} (h : sp_tree_of as M) : T_tree_of { nx := fun _ => False, rt := M } (stEv N_tree_of as) := by
  obtain ⟨R, L, rfl, hR, hL, q⟩ := h
  have l3 := hL.few hR
  refine ⟨by rw [List.length_map]; omega, fun ys py so => ?_⟩
  have ny : ys.Nodup := py.nodup_iff.mpr hL.nd
  refine ⟨fun i ρ => ∃ S a, ρ = [some (.d (regD R)), some (.d (plD L)), some (.own (fsD (S.flatMap (·.fs)))), a, none] ∧ S.map (·.nm) = ys.take i ∧ ∀ p ∈ S, p ∈ R ∧ inPl L p = true, ⟨[], _, rfl, rfl, fun p hp => by cases hp⟩, ?_, ?_⟩
  · rintro i d ρ hd ⟨S, a, rfl, eS, hS⟩
    obtain ⟨y, hy, rfl⟩ := mapAt hd
    obtain ⟨e, he, rfl⟩ := List.mem_map.mp (py.mem_iff.mp (List.mem_of_getElem? hy))
    obtain ⟨p, hp, e1, e2⟩ := hL.of e he
    have okp := hR.all p hp
    have lS : S.length ≤ 3 := by
      have := congrArg List.length eS
      rw [List.length_map, List.length_take] at this
      have := py.length_eq
      rw [List.length_map] at this
      omega
    have lF := flat_len (S := S) fun p hp => hR.all p (hS p hp).1
    have nn : ((S ++ [p]).map (·.nm)).Nodup := by
      rw [List.map_append, eS, List.map_singleton, ← e1, ← take_snoc hy]
      exact take_nd ny _
    have nf := flat_nd (S := S ++ [p]) (fun r hr => by
      rcases List.mem_append.mp hr with z | z
      · exact hR.all r (hS r z).1
      · rw [List.mem_singleton.mp z]; exact okp) nn
    rw [List.flatMap_append, List.flatMap_singleton] at nf
    refine ⟨rfl, etD e.2, look_pl hL.nd he, verD e.2.1, rfl, ?_⟩
    have okn : OkS e.1 := by rw [e1]; exact (tmS_of (nm_tm _ okp.nm)).ok
    refine ⟨R, e.1, e.2.1, rfl, hR, okn, fun r hr r1 r2 => ?_, fun no => absurd ⟨e1.symm, e2.symm⟩ (no p hp)⟩
    have := rg_one hR hr hp (by rw [r1, e1]) (by rw [r2, e2])
    subst this
    refine ⟨r, rfl, okp, ?_⟩
    have lp := okp.few
    refine ⟨by rw [List.length_map, List.length_map, slz]; omega, S ++ [r], some (.d (.str e.1)), ?_, ?_, ?_⟩
    · rw [List.flatMap_append, List.flatMap_singleton, ← mrg_app _ _ nf, ← merge_fs]; rfl
    · rw [List.map_append, eS, List.map_singleton, r1, ← take_snoc hy]
    · intro w hw
      rcases List.mem_append.mp hw with z | z
      · exact hS w z
      · rw [List.mem_singleton.mp z]
        exact ⟨hr, inPl_iff.mpr ⟨e, he, e1, e2⟩⟩
  · rintro ρ ⟨S, a, rfl, eS, hS⟩
    rw [List.length_map, List.take_length] at eS
    have nS : (S.map (·.nm)).Nodup := by rw [eS]; exact ny
    have pS : (S.flatMap (·.fs)).Perm (TO R L) := by
      refine TO_perm hR hL.nd nS fun p => ⟨hS p, fun ⟨hp, hl⟩ => ?_⟩
      obtain ⟨e, he, e1, e2⟩ := inPl_iff.mp hl
      have : e.1 ∈ S.map (·.nm) := by rw [eS]; exact py.mem_iff.mpr (List.mem_map.mpr ⟨e, he, rfl⟩)
      obtain ⟨r, hr, e3⟩ := List.mem_map.mp this
      obtain ⟨hrR, hrl⟩ := hS r hr
      obtain ⟨f, hf, f1, f2⟩ := inPl_iff.mp hrl
      have := pl_fn hL.nd he hf (by rw [f1]; exact e3.symm)
      subst this
      have := rg_one hR hp hrR (by rw [← e1, ← f1]) (by rw [← e2, ← f2])
      subst this
      exact hr
    have nT := TO_nd hR hL.nd
    have lT := TO_len hR hL.nd
    have lS := pS.length_eq
    have nF : ((S.flatMap (·.fs)).map (·.1)).Nodup := (pS.map _).nodup_iff.mpr nT
    generalize S.flatMap (·.fs) = F at pS lS nF
    refine ⟨by rw [List.length_map]; omega, fun zs pz sz => ?_⟩
    have nz : zs.Nodup := pz.nodup_iff.mpr nF
    have lz : zs.length ≤ 12 := by rw [pz.length_eq, List.length_map]; omega
    refine ⟨fun i ks es => ks = (prF F (zs.take i)).map (·.1) ∧ es = (prF F (zs.take i)).map fun p => Dt.str p.2, ⟨rfl, rfl⟩, ?_, ?_⟩
    · rintro i d ks es hd ⟨rfl, rfl⟩
      obtain ⟨y, hy, rfl⟩ := mapAt hd
      obtain ⟨c, hc⟩ := mem_keys (pz.mem_iff.mp (List.mem_of_getElem? hy))
      obtain ⟨k1, k2⟩ := t_sorted_copy (F := F) nz hy hc
      exact ⟨.str c, by rw [look_fs, hc]; rfl, by rw [_root_.DK.prF_keys, List.length_take, slz]; omega, k1, k2⟩
    · rintro ks es ⟨rfl, rfl⟩
      rw [List.length_map, List.take_length]
      exact q _ ⟨(prF_ord nF pz sz).s, (prF_ord nF pz sz).p.trans pS⟩
abbrev N__law_tree_of : List PySem.Str := ["registry", "plan", "found", "pack", "path", "content"]
abbrev P__law_tree_of : List PySem.Str := ["registry", "plan"]
def T__law_tree_of : DS :=
  (dSeq (dSetO 2 vNewD)
  (dSeq (dFor (viSeq (vOp ixD (vVarC 0) (vConst (.int 0)))) (vName 3)
  (dIf (vAnd (vBl (vOp inD (vOp ixD (vVarC 3) (vConst (.int 0))) (vVarC 1))) (vBl (vOp eqD (vOp ixD (vOp ixD (vVarC 1) (vOp ixD (vVarC 3) (vConst (.int 0)))) (vConst (.int 0))) (vOp ixD (vVarC 3) (vConst (.int 1))))))
  (dFor (viSeq (vOp ixD (vVarC 3) (vConst (.int 7)))) (vgTup 2 (vgCons (vName 4) (vgCons (vName 5) vgNil)))
  (dPut 2 (vVar 4) (vVar 5)))
  dNext))
  (dRet (vCall pairsD (vlCons (vSortItems (vVarC 2)) vlNil)))))

def sp__law_tree_of : DSp := fun as M => ∃ (R : List Pk) (L : Pl), as = [.d (regD R), .d (plD L)] ∧ RgOk R ∧ (L.map (·.1)).Nodup ∧ ∀ G, Ord (TO R L) G → M (fsD G)
theorem len__law_tree_of {as : List Ar} {M : Dt → Prop} (h : sp__law_tree_of as M) : as.length = P__law_tree_of.length := by obtain ⟨_, _, rfl, _⟩ := h; rfl
theorem TO_snoc {R : List Pk} {L : Pl} {i : Nat} {p : Pk} (h : R[i]? = some p) : TO (R.take (i + 1)) L = TO (R.take i) L ++ if inPl L p = true then p.fs else [] := by
  unfold TO
  rw [take_snoc h, List.filter_append, List.flatMap_append]
  congr 1
  by_cases z : inPl L p = true
  · rw [if_pos z, List.filter_cons_of_pos z]
    show p.fs ++ [] = _
    rw [List.append_nil]
  · rw [if_neg z, List.filter_cons_of_neg z]; rfl
theorem t__law_tree_of {as : List Ar} {M : Dt → Prop} (h : sp__law_tree_of as M) : T__law_tree_of { nx := fun _ => False, rt := M } (stEv N__law_tree_of as) := by
  obtain ⟨R, L, rfl, hR, nL, q⟩ := h
  have hRt : ∀ i, RgOk (R.take i) := fun i => ⟨fun p hp => hR.all p (List.mem_of_mem_take hp), by rw [List.length_take]; have := hR.few; omega, ((List.take_sublist i R).map _).nodup hR.nd⟩
  refine ⟨.tup (R.map pkD), rfl, ?_⟩
  refine ⟨fun i ρ => ∃ a b c, ρ = [some (.d (regD R)), some (.d (plD L)), some (.own (fsD (TO (R.take i) L))), a, b, c], ⟨_, _, _, rfl⟩, ?_, ?_⟩
  · rintro i d ρ hd ⟨a, b, c, rfl⟩
    obtain ⟨p, hp, rfl⟩ := mapAt hd
    have ts := TO_snoc (L := L) hp
    have nT := TO_nd (hRt (i + 1)) nL
    have lT := TO_len (hRt (i + 1)) nL
    have okp := hR.all p (List.mem_of_getElem? hp)
    refine ⟨.str p.nm, rfl, ?_⟩
    show if decide (p.nm ∈ L.map (·.1)) = true then _ else _
    by_cases z : p.nm ∈ L.map (·.1)
    · refine iteP (decide_eq_true z) ?_
      obtain ⟨e, he, e1⟩ := List.mem_map.mp z
      refine ⟨.str p.nm, rfl, etD e.2, by rw [← e1]; exact look_pl nL he, verD e.2.1, rfl, verD p.vs, rfl, ?_⟩
      have ev : ∀ N : Bool → Prop, N (decide (e.2.1 = p.vs)) → eqD (verD e.2.1) (verD p.vs) (fun d => match d with | .bl c => N c | _ => False) := fun N h => by
        have l3 : p.vs.length = 3 := okp.vs.1
        have e3 := eqv_ver e.2.1 p.vs
        cases hv : p.vs with
        | nil => rw [hv] at l3; cases l3
        | cons x xs =>
          rw [hv] at h e3
          refine ⟨shp_ver _, shp_ver _, ?_⟩
          show N (PyData.eqv (py (verD e.2.1)) (py (verD (x :: xs))))
          rw [e3]; exact h
      refine ev (fun c => if c = true then _ else _) ?_
      by_cases y : e.2.1 = p.vs
      · refine iteP (decide_eq_true y) ?_
        have ip : inPl L p = true := inPl_iff.mpr ⟨e, he, e1, y⟩
        rw [if_pos ip] at ts
        refine ⟨.fup (p.fs.map cpD), rfl, ?_⟩
        refine ⟨fun j ρ => ∃ b c, ρ = [some (.d (regD R)), some (.d (plD L)), some (.own (fsD (TO (R.take i) L ++ p.fs.take j))), some (.d (pkD p)), b, c], ⟨b, c, by rw [List.take_zero, List.append_nil]; rfl⟩, ?_, ?_⟩
        · rintro j d ρ hd ⟨b, c, rfl⟩
          obtain ⟨f, hf, rfl⟩ := mapAt hd
          refine ⟨rfl, rfl, ?_⟩
          have fl : (TO (R.take i) L ++ p.fs.take j).length ≤ 12 := by
            rw [ts, List.length_append] at lT
            rw [List.length_append, List.length_take]; omega
          refine ⟨by rw [List.length_map, slz]; omega, some (.d (.str f.1)), some (.d (.str f.2)), ?_⟩
          have nf : f.1 ∉ (TO (R.take i) L ++ p.fs.take j).map (·.1) := fun m => by
            rw [ts] at nT
            rw [List.map_append] at nT m
            have fm := List.mem_of_getElem? hf
            rcases List.mem_append.mp m with m | m
            · exact (List.nodup_append.mp nT).2.2 _ m _ (List.mem_map.mpr ⟨f, fm, rfl⟩) rfl
            · have := (List.nodup_append.mp nT).2.1
              refine nd_take this (i := j) (y := f.1) ?_ ?_
              · rw [List.getElem?_map, hf]; rfl
              · rw [← List.map_take]; exact m
          show [_, _, some (W.own (.dic (keysP _ f.1) (valsP _ _ f.1 (.str f.2)))), _, _, _] = _
          rw [fsD_put, put_new nf, List.append_assoc, ← take_snoc hf]
        · rintro ρ ⟨b, c, rfl⟩
          rw [List.length_map, List.take_length]
          exact ⟨_, _, _, by rw [ts]⟩
      · refine iteN (by rw [decide_eq_false y]; decide) ?_
        have ip : ¬ inPl L p = true := fun w => by
          obtain ⟨f, hf, f1, f2⟩ := inPl_iff.mp w
          have := pl_fn nL he hf (by rw [e1, f1])
          subst this
          exact y f2
        rw [if_neg ip, List.append_nil] at ts
        exact ⟨_, _, _, by rw [ts]; rfl⟩
    · refine iteN (by rw [decide_eq_false z]; decide) ?_
      have ip : ¬ inPl L p = true := fun w => by
        obtain ⟨f, hf, f1, f2⟩ := inPl_iff.mp w
        exact z (List.mem_map.mpr ⟨f, hf, f1⟩)
      rw [if_neg ip, List.append_nil] at ts
      exact ⟨_, _, _, by rw [ts]; rfl⟩
  · rintro ρ ⟨a, b, c, rfl⟩
    rw [List.length_map, List.take_length]
    have nT := TO_nd hR nL
    have lT := TO_len hR nL
    generalize TO R L = T at nT lT q
    refine ⟨T, rfl, rfl, by omega, fun G2 pG sG => ?_⟩
    have oG2 := _root_.DK.ord_sorted nT pG sG
    have nG : (G2.map (·.1)).Nodup := (pG.map _).nodup_iff.mpr nT
    refine ⟨G2.map fun p => (p.1, Dt.str p.2), by rw [List.map_map]; rfl, by rw [List.map_map]; exact nG, ?_⟩
    have := q G2 oG2
    unfold fsD at this
    rw [List.map_map, List.map_map]
    exact this
end VL
/-! `{**d, k: v}`: what a display does with a dict spread in it. -/
namespace VL
open PySem PySem.Spec PyProof.Rows L2 TL RX
section
variable {prog : Program} {w : World} {A : Around} {E : Value → Shared → Prop} {s : Shared} {K : Type} [DecidableEq K] {knd : KeyKind prog w K}
theorem put_pairs {d : Addr} {kvs : List (K × Value)} {k : K} {key v : Value} {Q : Unit → Shared → Prop} (hkey : knd.is k key = true) (hm : s.heap.DictOf knd d kvs) (hsz : kvs.length ≤ sizeLine)
    (hQ : ∀ h', h'.DictOf knd d (stored kvs k v) → Heap.SameBut d s.heap h' → Q () { s with heap := h' }) : wpAny (model prog w) A (dictPut d (knd.hash k) key v) Q E s := by
  obtain ⟨o, es, ep, ho, hc, hd, hk, hp, hn⟩ := hm
  have lz : es.size ≤ sizeLine := by have e1 := hp.length; rw [Array.length_toList] at e1; omega
  unfold dictPut
  refine wpAny_bind (wpAny_dictFind_of hkey ho hd hk ?_)
  have ix : (es.findIdx? fun e => knd.is k e.key) = kvs.findIdx? fun kv => decide (kv.1 = k) := by
    rw [← hp.findIdx k]; obtain ⟨l⟩ := es; simp
  cases hi : es.findIdx? fun e => knd.is k e.key with
  | some i =>
    have an := any_of_findIdx_some (ix ▸ hi)
    refine wpAny_updateDict ho hd (hQ _ ⟨_, _, ep, Heap.get?_update_self _ ho (Obj.isFreed_of_dict (Obj.data_mapDict hd _)), hc.mapDict _, Obj.data_mapDict hd _, hk.modify _ _, ?_, ?_⟩ (Heap.SameBut.update ..))
    · rw [stored, if_pos an]
      have hl : (es.toList.findIdx? fun e => knd.is k e.key) = some i := by rw [← hi]; obtain ⟨l⟩ := es; simp
      have md := hp.modify hn hl v
      obtain ⟨l⟩ := es
      simpa using md
    · rw [stored, if_pos an, keys_map_store]; exact hn
  | none =>
    have nin := not_mem_of_findIdx_none (ix ▸ hi)
    have nan : ¬ (kvs.any fun kv => decide (kv.1 = k)) = true := fun h => by
      obtain ⟨kv, hkv, he⟩ := List.any_eq_true.mp h
      exact nin (List.mem_map.mpr ⟨kv, hkv, of_decide_eq_true he⟩)
    refine wpAny_updateDictKeys (hz := lz) ho hd (hQ _ ⟨_, _, ep + 1, Heap.get?_update_self _ ho (Obj.isFreed_of_dict (Obj.data_mapDictKeys hd _)), hc.mapDictKeys _, Obj.data_mapDictKeys hd _, hk.push hkey _, ?_, ?_⟩ (Heap.SameBut.update ..))
    · rw [stored, if_neg nan]
      have ap := hp.append hkey (knd.hash k) v
      obtain ⟨l⟩ := es
      simpa using ap
    · rw [stored, if_neg nan, List.map_append, List.nodup_append]
      refine ⟨hn, by simp, fun a ha b hb e => nin ?_⟩
      have : b = k := by simpa using hb
      rw [← this, ← e]; exact ha
theorem merged_snoc (kvs more : List (K × Value)) {i : Nat} {q : K × Value} (h : more[i]? = some q) : merged kvs (more.take (i + 1)) = stored (merged kvs (more.take i)) q.1 q.2 := by
  have e : more.take (i + 1) = more.take i ++ [q] := by rw [List.take_add_one, h]; rfl
  rw [e]
  unfold merged
  rw [List.foldl_append]; rfl
theorem merge_plain {d o : Addr} {kvs more : List (K × Value)} {Q : Unit → Shared → Prop} (hdo : d ≠ o) (hoS : (o == sysModules) = false) (hd : s.heap.DictOf knd d kvs) (ho : s.heap.DictOf knd o more) (nk : ∀ (k : K) (v : Value), knd.is k v = true → ∀ a, v ≠ .ref a) (hsz : kvs.length + more.length ≤ sizeLine)
    (hQ : ∀ h', h'.DictOf knd d (merged kvs more) → Heap.SameBut d s.heap h' → Q () { s with heap := h' }) :
    wpAny (model prog w) A (mergeMapping d (.ref o) false) Q E s := by
  obtain ⟨od, esd, epd, hod, hcd, hdd, hkd, hpd, hnd⟩ := id hd
  obtain ⟨oo, eso, epo, hoo, hco, hdo', hko, hpo, hno⟩ := id ho
  unfold mergeMapping
  refine wpAny_bind (wpAny_isInstance ho.typeIs isSubtype_dict_dict ?_)
  rw [if_pos rfl]
  refine wpAny_bind (wpAny_specialOf ho.typeIs PySem.F.slot_dict_iter.lookup (wpAny_bind (wpAny_pure ?_)))
  simp only [beq_self_eq_true]
  rw [if_neg (by rw [hoS]; exact Bool.false_ne_true)]
  refine wpAny_bind (wpAny_dictEntries hod hdd ?_)
  have hlen : more.length = eso.size := by rw [← hpo.length, Array.length_toList]
  split
  all_goals first
  | (
    refine wpAny_bind (wpAny_dictEntries hoo hdo' ?_)
    rw [← Array.forIn_toList]
    refine wpAny_bind (wpAny_forIn_list _ (fun rest _ s' => s' = s ∧ ∀ e ∈ rest, e ∈ eso.toList) _ (by
      rintro e rest b s' ⟨rfl, hm⟩
      obtain ⟨j, hj⟩ := List.mem_iff_getElem?.mp (hm e List.mem_cons_self)
      obtain ⟨kv, _, hk1, _⟩ := pairs_at hpo hj
      have nr := nk _ _ hk1
      cases hk : e.key with
      | ref a => exact absurd hk (nr a)
      | _ => exact wpAny_pure ⟨rfl, fun e' h' => hm e' (List.mem_cons_of_mem _ h')⟩) (fun b s' hb => ?_) _ _ ⟨rfl, fun e h => h⟩)
    rw [hb.1])
  | skip
  all_goals
    refine wpAny_bind (wpAny_dictEntries hoo hdo' ?_)
    refine wpAny_bind (wpAny_dictEpoch hoo hdo' ?_)
    refine wpAny_bind (wpAny_forIn_list _ (fun rest _ s' => ∃ h' i, s' = { s with heap := h' } ∧ rest = (List.range eso.size).drop i ∧ i ≤ eso.size ∧ h'.DictOf knd d (merged kvs (more.take i)) ∧ h'.get? o = some oo ∧ Heap.SameBut d s.heap h') _ ?_ ?_ _ _ ⟨s.heap, 0, rfl, rfl, Nat.zero_le _, by simpa [merged] using hd, hoo, Heap.SameBut.refl _ _⟩)
    · rintro x rest b s' ⟨h', i, rfl, hr, hi, hd', hoo', hs'⟩
      have hlt : i < eso.size := by
        rcases Nat.lt_or_ge i eso.size with h | h
        · exact h
        · rw [List.drop_eq_nil_of_le (by rw [List.length_range]; exact h)] at hr; cases hr
      have hx : x = i ∧ rest = (List.range eso.size).drop (i + 1) := by
        have e := List.drop_eq_getElem_cons (l := List.range eso.size) (i := i) (by rw [List.length_range]; exact hlt)
        rw [e, List.getElem_range] at hr
        injection hr with h1 h2
        exact ⟨h1, h2⟩
      obtain ⟨rfl, hrest⟩ := hx
      refine wpAny_bind (wpAny_dictEntries hoo' hdo' ?_)
      rw [Array.getElem?_eq_getElem hlt]
      have hkv : more[x]? = some (more[x]'(by rw [hlen]; exact hlt)) := List.getElem?_eq_getElem _
      generalize more[x]'(by rw [hlen]; exact hlt) = kv at hkv
      obtain ⟨hkey, hval⟩ := hpo.get? (e := eso[x]) (by simp [hlt]) hkv
      obtain ⟨k', hkey', hhash⟩ := hko eso[x] (Array.getElem_mem hlt)
      obtain rfl : k' = kv.1 := knd.inj _ _ _ hkey' hkey
      have hmx : (merged kvs (more.take x)).length ≤ sizeLine := by
        have e1 := merged_length_le kvs (more.take x)
        have e2 : (more.take x).length ≤ more.length := by rw [List.length_take]; omega
        omega
      show wpAny _ _ (holding [eso[x].key, eso[x].val] (dictPut d eso[x].hash eso[x].key eso[x].val) >>= _) _ _ _
      rw [hhash, hval]
      refine wpAny_bind (wpAny_holding (put_pairs hkey hd' hmx fun h'' hd'' hs'' => ?_))
      have hoo'' : h''.get? o = some oo := (hs''.2 o (Ne.symm hdo)).trans hoo'
      refine wpAny_bind (wpAny_dictEpoch hoo'' hdo' ?_)
      rw [if_neg (by simp)]
      exact wpAny_pure ⟨h'', x + 1, rfl, hrest, hlt, by rw [merged_snoc kvs more hkv]; exact hd'', hoo'', hs'.trans hs''⟩
    · rintro b s' ⟨h', i, rfl, hr, hi, hd', hoo', hs'⟩
      have hin : i = eso.size := by
        rcases Nat.lt_or_ge i eso.size with h | h
        · have e := List.drop_eq_getElem_cons (l := List.range eso.size) (i := i) (by rw [List.length_range]; exact h)
          rw [e] at hr; cases hr
        · exact Nat.le_antisymm hi h
      refine wpAny_pure (hQ h' ?_ hs')
      rw [hin, ← hlen, List.take_length] at hd'; exact hd'
end
end VL
/-! `{**d, k: v}`: the rule. -/
namespace VL
open PySem PySem.Spec PyProof.Rows L2 TL RX
section
variable {X : Cx} {m k v : Expr} {pos : Pos} {tm tk tv : TE}
def tSpread (tm tk tv : TE) : TE := fun σ H Q => ∀ d, H d = none → tm σ (upd H d (.dK [])) fun x H1 => ∃ b ls, x = .ref b ∧ d ≠ b ∧ H1 d = some (.dK []) ∧ Rd H1 b (.dK ls) ∧
  ∀ p, (upd H1 d (.dK (mergeK [] ls))) p = none → tPairs [(tk, tv)] σ (upd (upd H1 d (.dK (mergeK [] ls))) p (.dK [])) fun ps H3 => ∃ (y z : V), ps = [(y, z)] ∧ ∃ kx : L2.Key, y = kV kx ∧ p ≠ d ∧ H3 p = some (.dK []) ∧ H3 d = some (.dK (mergeK [] ls)) ∧ (mergeK [] ls).length + 1 ≤ sizeLine ∧
    Q (.ref d) (upd (upd H3 p (.dK [(kx, z)])) d (.dK (putK (mergeK [] ls) kx z)))
theorem mix_flat {P : Program} {w : World} : ∀ (k : L2.Key) (v : Value), (mixKind P w).is k v = true → ∀ a, v ≠ .ref a := fun k v h a e => by
  subst e
  have := keyIs_rel h
  cases k with
  | inl i => obtain ⟨t, q⟩ := (show ∃ t, Value.ref a = Value.int i t from this); cases q
  | inr x => obtain ⟨t, q⟩ := (show ∃ t, Value.ref a = Value.str x t from this); cases q
theorem pe_spread (hm : PE X m tm) (hk : PE X k tk) (hv : PE X v tv) : PE X (.Dict [none, some k] [m, v] pos) (tSpread tm tk tv) := ⟨fun pins s σ H Q I h => by
  rw [arm_eval_Dict]
  refine wpAny_bind (wpAny_standAt ?_)
  show wpAny _ X.A (dictDisplay [(none, do let x ← eval m X.env; standAt pos; pure x), (some (eval k X.env), do let x ← eval v X.env; standAt pos; pure x)]) _ _ s
  unfold dictDisplay
  dsimp only
  refine wpAny_bind ?_
  rw [List.forIn_cons]
  refine wpAny_bind ?_
  simp only [List.isEmpty_nil, if_true]
  refine wpAny_bind (wpAny_pure ?_)
  refine wpAny_bind (wpAny_alloc ?_)
  have hn := I.hok.fresh (Nat.le_refl s.heap.objs.size)
  have I1 := I.laid (a := s.heap.objs.size) (o := .dK []) (h' := s.heap.push { cls := .type "dict", data := .dict #[] }) (t' := s.toks) (fun _ _ q => Heap.get?_push_of_some _ q) (Nat.le_refl _) (dk_empty s.heap I.big)
  generalize hd : s.heap.objs.size = d at I1 hn ⊢
  refine wpAny_bind (wpAny_holding (wpAny_bind (thn (hm.run pins _ σ _ _ I1 (h d hn)) fun u s2 ⟨x, H1, I2, r1, b, ls, ex, hdb, e1, e2, q1⟩ => wpAny_bind (wpAny_standAt (wpAny_pure ?_)))))
  subst ex
  obtain rfl : u = Value.ref b := r1
  obtain ⟨z1, hd1, vs1, rel1, dd1⟩ := dk_of I2.hok e1
  obtain ⟨z2, hd2, vs2, rel2, dd2⟩ := dk_rd I2.hok e2
  cases rel1
  have l2 : ls.length = vs2.length := Paired.length rel2
  refine wpAny_bind (wpAny_onRaise (wpAny_tryCatch (wpAny_onRaise (wpAny_holding (merge_plain (knd := mixKind X.prog X.w) hdb hd2 dd1 dd2 mix_flat (by simpa [← l2] using z2) fun h' dd' hs => ?_)))))
  have lm := length_mergeK ls []
  rw [List.length_nil, Nat.zero_add] at lm
  have he : ∃ q, h'.get? d = some q := let ⟨q, _, _, hq, _⟩ := dd'; ⟨q, hq⟩
  have I3 : Inv X pins σ (upd H1 d (.dK (mergeK [] ls))) { s2 with heap := h' } :=
    d_write (t' := s2.toks) I2 (by rw [e1]; exact True.intro) hs he (dk_new (by omega) hd1 (KV.merge rel2 .nil) dd')
  refine wpAny_pure ?_
  dsimp only
  rw [List.forIn_cons]
  refine wpAny_bind ?_
  simp only [List.nil_append, List.length_singleton]
  rw [if_neg (by decide)]
  refine wpAny_pure ?_
  dsimp only
  rw [List.forIn_nil]
  refine wpAny_pure ?_
  dsimp only
  refine wpAny_bind ?_
  simp only [List.isEmpty_cons]
  rw [if_neg (by decide)]
  refine wpAny_bind (wpAny_holding (wpAny_subDict (knd := mixKind X.prog X.w) (by simp) ?_))
  have hn2 := I3.hok.fresh (Nat.le_refl h'.objs.size)
  have I4 := I3.laid (a := h'.objs.size) (o := .dK []) (h' := h'.push { cls := .type "dict", data := .dict #[] }) (t' := s2.toks) (fun _ _ q => Heap.get?_push_of_some _ q) (Nat.le_refl _) (dk_empty h' I3.big)
  generalize hp : h'.objs.size = p at I4 hn2 ⊢
  have P := pps_cons (pos := pos) hk hv (pps_nil (X := X) (pos := pos))
  refine thn (P.run pins _ σ _ _ I4 (q1 p hn2)) fun ws s5 ⟨ps, H3, I5, rel, y, z, eps, kx, ey, pd, ep, ed, lz, q3⟩ => ?_
  subst eps
  subst ey
  obtain ⟨rs, cr, kvr⟩ := carries_of (P := X.prog) (w := X.w) (kvs := [(kx, z)]) rel
  obtain ⟨_, hd5, vs5, rel5, dd5⟩ := dk_of I5.hok ep
  cases rel5
  refine ⟨rs, cr, dd5, fun h2 dd2' hs2 => ?_⟩
  have lw : merged [] rs = rs := by
    cases kvr with
    | cons a t => cases t; rfl
  rw [lw] at dd2'
  have I6 : Inv X pins σ (upd H3 p (.dK [(kx, z)])) { s5 with heap := h2, toks := s5.toks + ws.length } :=
    d_write (t' := s5.toks + ws.length) I5 (by rw [ep]; exact True.intro) hs2 (let ⟨q, _, _, hq, _⟩ := dd2'; ⟨q, hq⟩) (dk_new (by rw [sizeLine_eq]; show 1 ≤ _; decide) hd5 kvr dd2')
  have ed6 : upd H3 p (.dK [(kx, z)]) d = some (.dK (mergeK [] ls)) := by rw [upd_ne pd.symm]; exact ed
  obtain ⟨z7, hd7, vs7, rel7, dd7⟩ := dk_of I6.hok ed6
  obtain ⟨_, hd8, vs8, rel8, dd8⟩ := dk_of I6.hok (show upd H3 p (.dK [(kx, z)]) p = some (.dK [(kx, z)]) from upd_same)
  have l7 : (mergeK [] ls).length = vs7.length := Paired.length rel7
  have l8 : [(kx, z)].length = vs8.length := Paired.length rel8
  refine wpAny_bind (wpAny_onRaise (wpAny_holding (merge_plain (knd := mixKind X.prog X.w) pd.symm hd8 dd7 dd8 mix_flat (by rw [← l7, ← l8]; exact lz) fun h3 dd9 hs9 => ?_)))
  refine wpAny_pure ?_
  have I7 : Inv X pins σ (upd (upd H3 p (.dK [(kx, z)])) d (.dK (mergeK (mergeK [] ls) [(kx, z)]))) { s5 with heap := h3, toks := s5.toks + ws.length } :=
    d_write (s := { s5 with heap := h2, toks := s5.toks + ws.length }) (t' := s5.toks + ws.length) I6 (by rw [ed6]; exact True.intro) hs9 (let ⟨q, _, _, hq, _⟩ := dd9; ⟨q, hq⟩) (dk_new (by have := length_mergeK [(kx, z)] (mergeK [] ls); simp at this; omega) hd7 (KV.merge rel8 rel7) dd9)
  exact wpAny_pure ⟨.ref d, _, I7, rfl, q3⟩⟩
end
end VL
/-! `{**d, k: v}` by data. -/
namespace VL
open PySem PySem.Spec PyProof.Rows L2 TL RX
section
variable {X : Cx} {m k v : Expr} {pos : Pos}
def vSpread (tm tk tv : DE) : DE := fun ρ M => tm ρ fun x => isDic x ∧ tk ρ fun y => tv ρ fun z => match x, y with
  | .dic ks ds, .str k => ks.length + 1 ≤ sizeLine ∧ M (.dic (keysP ks k) (valsP ks ds k z))
  | _, _ => False
/-- a value to be looked into that is not a thing made just now -/
def lN (t : DE) : TE := fun σ H Q => ∃ f O ρ M, Rel f O H σ ρ ∧ t ρ M ∧ ∀ d v H', M d → Nxt (gO f O) H H' → Rpc (gO f O) H' v d → (∀ p, O p → f.H p = none → (∀ (j : Nat) (x : Dt), ρ[j]? = some (some (.own x)) → σ[j]? ≠ some (some (.ref p))) → v ≠ .ref p) → Q v H'
theorem vn_e {e : Expr} {t : DE} (h : VE X e t) : PE X e (lN t) := pe_imp h fun σ H Q ⟨f, O, ρ, M, r, q, k⟩ => ⟨f, O, ρ, M, r, q, fun d v H' m n p => k d v H' m n (.inl p) fun z oz fz ap e => by
  subst e
  cases d with
  | lst ds => obtain ⟨a, xs, e, na, _⟩ := p.lst_inv; cases e; exact na oz
  | tup ds => obtain ⟨a, xs, e, na, _⟩ := p.tup_inv; cases e; exact na oz
  | fup ds => obtain ⟨a, o, xs, e, na, _⟩ := p.fup_inv; cases e; exact na oz
  | dic ks ds => obtain ⟨a, xs, e, na, _⟩ := p.dic_inv; cases e; exact na oz
  | _ => cases p⟩
theorem vn_var {i : Nat} {x : PySem.Str} {pos : Pos} (hN : X.N[i]? = some x) (hv : Vis X.env.scope x) (hd : (x == ("__debug__" : PySem.Str)) = false := by decide) (hcd : (x == ("__classdict__" : PySem.Str)) = false := by decide) : PE X (.Name x pos) (lN (vVarC i)) := by
  refine pe_imp (pe_var hN hv hd hcd) fun σ H Q ⟨f, O, ρ, M, r, q, k⟩ => ?_
  unfold vVarC at q
  split at q
  · next x' e =>
    obtain ⟨v, ev, p⟩ := r.sl _ _ e
    refine ⟨v, ev, k _ _ _ q (.refl r.ctx) (.inl p) fun z oz fz ap e => ?_⟩
    subst e
    cases x' with
    | lst ds => obtain ⟨a, xs, e, na, _⟩ := Rp.lst_inv (show Rp _ _ _ _ from p); cases e; exact na oz
    | tup ds => obtain ⟨a, xs, e, na, _⟩ := Rp.tup_inv (show Rp _ _ _ _ from p); cases e; exact na oz
    | fup ds => obtain ⟨a, o, xs, e, na, _⟩ := Rp.fup_inv (show Rp _ _ _ _ from p); cases e; exact na oz
    | dic ks ds => obtain ⟨a, xs, e, na, _⟩ := Rp.dic_inv (show Rp _ _ _ _ from p); cases e; exact na oz
    | _ => cases (show Rp _ _ _ _ from p)
  · next x' e =>
    obtain ⟨v, ev, a, e1, e2, e3, e4⟩ := r.sl _ _ e
    exact ⟨v, ev, k _ _ _ q (.refl r.ctx) (.inr ⟨a, e1, r.nb e3, e4⟩) fun z oz fz ap e' => ap _ _ e (by rw [ev, e'])⟩
  · next x' e =>
    obtain ⟨v, ev, a, e1, e2, e3, e4⟩ := r.sl _ _ e
    exact ⟨v, ev, k _ _ _ q (.refl r.ctx) (.inr ⟨a, e1, e2, e4⟩) fun z oz fz ap e' => by
      rw [e1] at e'
      cases e'
      exact r.rne e3 fz rfl⟩
  · exact q.elim
theorem vf_spread {tm tk tv : DE} (hm : PE X m (lN tm)) (hk : VE X k tk) (hv : VE X v tv) : VF X (.Dict [none, some k] [m, v] pos) (vSpread tm tk tv) :=
  pe_imp (pe_spread hm hk hv) fun σ H Q ⟨f, O, ρ, M, r, q, kq⟩ => by
    intro d nd
    have rd := r.and nd (o := .dK [])
    have fd : f.H d = none := r.none_of nd
    have ap := r.fresh_ap nd
    refine ⟨f, _, ρ, _, rd, q, fun x xv H1 m1 n1 p1 ne1 => ?_⟩
    cases x with
    | dic ks ds =>
      obtain ⟨b, kv, e1, hb, ndp, ek, rr⟩ := Rpc.dic p1
      subst e1
      subst ek
      have db : d ≠ b := fun z => ne1 d (Or.inr rfl) fd ap (by rw [z])
      have r1 := rd.nxt n1
      have hd1 : H1 d = some (.dK []) := n1.c.app d _ (r1.nb fd) upd_same
      have em : mergeK [] (kk kv) = kk kv := by
        rw [_root_.DK.merge_nd _ _ (by
          rw [List.nil_append]
          unfold kk
          rw [List.map_map]
          have : (kv.map ((fun x : L2.Key × V => x.1) ∘ fun p => (Sum.inr p.1, p.2))) = (kv.map (·.1)).map Sum.inr := by rw [List.map_map]; rfl
          rw [this]
          exact List.Pairwise.map _ (fun a b h e => h (Sum.inr.inj e)) ndp)]
        rfl
      refine ⟨b, kk kv, rfl, db, hd1, hb, fun p np => ?_⟩
      rw [em] at np ⊢
      have r2 := r1.put (o := .dK (kk kv)) (Or.inr rfl) fd ap
      have pd : p ≠ d := fun z => by rw [z, upd_same] at np; cases np
      have rp2 := r2.and np (o := .dK [])
      have fp : f.H p = none := r2.none_of np
      have app := r2.fresh_ap np
      refine ⟨f, _, ρ, _, rp2, m1.2, fun y yv H2 m2 n2 p2 => ⟨f, _, ρ, _, rp2.nxt n2, m2, fun z zv H3 m3 n3 p3 => ?_⟩⟩
      cases y with
      | str kx =>
        obtain ⟨sz, m3⟩ := m3
        have n23 := n2.trans n3
        have hp3 : H3 p = some (.dK []) := n23.c.app p _ (rp2.nb fp) upd_same
        have hd3 : H3 d = some (.dK (kk kv)) := n23.c.app d _ (rp2.nb fd) (by rw [upd_ne pd.symm]; exact upd_same)
        have r3 := (rp2.nxt n23).put (o := .dK [((Sum.inr kx : L2.Key), zv)]) (Or.inr rfl) fp app
        have r4 := r3.put (o := .dK (kk (putV' kv kx zv))) (Or.inl (Or.inr rfl)) fd ap
        have hne : ∀ a o, H a = some o → a ≠ d ∧ (a ≠ f.g.b → a ≠ p) := fun a o e => by
          have ad : a ≠ d := fun z => by rw [z, nd] at e; cases e
          refine ⟨ad, fun ab z => ?_⟩
          have e1 := n1.c.app a o ab (by rw [upd_ne ad]; exact e)
          rw [z] at e1
          rw [upd_ne pd, e1] at np; cases np
        refine ⟨_, _, rfl, Sum.inr kx, p2.str_inv, pd, hp3, hd3, by rw [kk_len]; rw [List.length_map] at sz; exact sz, ?_⟩
        rw [putK_kk]
        refine kq _ d _ m3 ⟨⟨fun a o ab e => ?_, fun x1 y1 s1 l1 e => ?_⟩, r4.ctx.bag⟩ nd ⟨putV' kv kx zv, upd_same, by rw [putV_keys]; exact keysP_nodup ndp, putV_keys kv kx zv, ?_⟩
        · obtain ⟨ad, ap'⟩ := hne a o e
          have pa := ap' ab
          rw [upd_ne ad, upd_ne pa]
          refine n23.c.app a o ab ?_
          rw [upd_ne pa, upd_ne ad]
          exact n1.c.app a o ab (by rw [upd_ne ad]; exact e)
        · have bd : f.g.b ≠ d := (r1.nb fd).symm
          have bp : f.g.b ≠ p := (rp2.nb fp).symm
          obtain ⟨a1, a2, a3, e1⟩ := n1.c.fo x1 y1 s1 l1 (by rw [upd_ne bd]; exact e)
          obtain ⟨b1, b2, b3, e2⟩ := n23.c.fo a1 a2 a3 l1 (by rw [upd_ne bp, upd_ne bd]; exact e1)
          exact ⟨b1, b2, b3, by rw [upd_ne bd, upd_ne bp]; exact e2⟩
        · have q1 := rr.chg (o := .dK (kk kv)) (show (gO f (gO f O |>.and d).O).O d from Or.inr rfl)
          have q2 : RpAll (gO f ((gO f (gO f O |>.and d).O).and p).O) (upd (upd H1 d (.dK (kk kv))) p (.dK [])) (kv.map (·.2)) ds := RpAll.mono (fun a o no e => by
            have ap2 : a ≠ p := fun z => by rw [z, np] at e; cases e
            exact ⟨by rw [upd_ne ap2]; exact e, fun z => Or.elim (show (gO f O |>.and d).O a ∨ a = p from z) no ap2⟩) _ _ q1
          have q3 := q2.nxt rp2.ctx n23
          have q4 := ((putV_rel (k := kx) p3 q3).chg (o := .dK [((Sum.inr kx : L2.Key), zv)]) (show (gO f ((gO f (gO f O |>.and d).O).and p).O).O p from Or.inr rfl)).chg (o := .dK (kk (putV' kv kx zv))) (show (gO f ((gO f (gO f O |>.and d).O).and p).O).O d from Or.inl (Or.inr rfl))
          exact q4.less fun a h => Or.inl h
      | _ => exact m3.elim
    | _ => exact m1.1.elim
theorem vn_v (i : Nat) {x : PySem.Str} {pos : Pos} (hN : X.N[i]? = some x := by rfl) (hv : Vis X.env.scope x := by first | exact Or.inl rfl | exact Or.inr (Or.inl rfl) | exact Or.inr (Or.inr rfl)) (hd : (x == ("__debug__" : PySem.Str)) = false := by decide)
    (hcd : (x == ("__classdict__" : PySem.Str)) = false := by decide) : PE X (.Name x pos) (lN (vVarC i)) := vn_var hN hv hd hcd
theorem va_ro {es : List Expr} (i : Nat) {x : PySem.Str} {u : DA} {pos : Pos} (hr : VA X es u) (hN : X.N[i]? = some x := by rfl) (hv : Vis X.env.scope x := by first | exact Or.inl rfl | exact Or.inr (Or.inl rfl) | exact Or.inr (Or.inr rfl)) (hd : (x == ("__debug__" : PySem.Str)) = false := by decide) (hcd : (x == ("__classdict__" : PySem.Str)) = false := by decide)
    (hs : starEach (.Name x pos :: es) X.env = (false, eval (.Name x pos) X.env) :: starEach es X.env := by rfl) : VA X (.Name x pos :: es) (vaR i u) := va_r hN hv hr hd hcd hs
end
end VL
/-! `for k in dict:` over a named dict, locked meanwhile. -/
namespace VL
open PySem PySem.Spec PyProof.Rows L2 TL RX
section
variable {X : Cx} {pos : Pos} {fr : Bool}
theorem for_body {is : List Nat} {g : DG} {u : DS} {f : Fr} {O : Addr → Prop} {ρ : Ev} {σ : L2.St} {H1 : Hp} {J : It} {ds : List Dt} {D : DEnds} {E : Ends} (r : Rel f O H1 σ ρ) (go : Goes (gO f O) J ds H1) (W : Nat → Ev → Prop) (w0 : W 0 ρ)
    (turn : ∀ i d ρ, ds[i]? = some d → W i ρ → g d ρ fun ρ2 => u { D with nx := W (i + 1), ct := W (i + 1), bk := D.nx } ρ2) (done : ∀ ρ, W ds.length ρ → D.nx ρ) (k : Outs fr f O H1 D E) :
    ∃ W : Nat → Nat → L2.St → Hp → Prop, (∃ m, W 0 m σ H1) ∧ ∀ i m σ H, W i m σ H →
      (J.stop i H ∧ E.nx σ H) ∨ (J.go i H ∧ ∃ N : L2.St → Hp → Prop, (∀ σ' H', N σ' H' → ∃ m', m' < m ∧ W (i + 1) m' σ' H') ∧ ∀ x H', J.yld i H x H' → (lG is g) x σ H' fun σ2 H2 => (lS fr u) { E with nx := N, ct := N, bk := E.nx } σ2 H2) := by
  obtain ⟨G, Y, wk, hG, hY⟩ := go.ex
  refine for_it wk (fun i σ' H' => ∃ O' ρ', Rel f O' H' σ' ρ' ∧ Kep O H1 O' H' ∧ W i ρ') ⟨O, ρ, r, .refl, w0⟩ ?_ ?_ ?_
  · rintro i σ' H' _ ⟨O', ρ', r', kp, w⟩
    exact hG O' H' kp
  · rintro i x σ' H' H2 hi ⟨O', ρ', r', kp, w⟩ y
    obtain ⟨d, hd, n2, p2⟩ := hY i H' x H2 O' kp r'.ctx y
    have kp2 := kp.trans (n2.kep r'.ctx)
    refine ⟨f, O', ρ', _, d, r'.nxt n2, p2, turn i d ρ' hd w, fun ρ2 σ2 m2 r2 _ => ?_⟩
    refine ⟨f, O', ρ2, _, r2, m2, ⟨?_, fun d v O3 H3 m3 q3 r3 => k.rt d v O3 H3 m3 (kp2.trans q3) r3, ?_, ?_⟩⟩
    · exact fun O3 ρ3 σ3 H3 m3 r3 k3 => ⟨O3, ρ3, r3, kp2.trans k3, m3⟩
    · exact k.nx.step kp2
    · exact fun O3 ρ3 σ3 H3 m3 r3 k3 => ⟨O3, ρ3, r3, kp2.trans k3, m3⟩
  · rintro σ' H' ⟨O', ρ', r', kp, w⟩
    exact k.nx _ _ _ _ (done ρ' w) r' kp
theorem lock_back {f : Fr} {O : Addr → Prop} {H : Hp} {σ : L2.St} {ρ : Ev} {d : Addr} {o1 o2 : HO} (r : Rel f O H σ ρ) (nb : d ≠ f.g.b) (hd : H d = some o1) : (f.lock d o2).lock d o1 = f := by
  obtain ⟨fg, fH⟩ := f
  have : ∀ a, ((Fr.lock ⟨fg, fH⟩ d o2).lock d o1).H a = fH a := fun a => by
    show (if a = d then (if (if d = d then (if fH d = none then none else some o2) else fH d) = none then none else some o1) else (if a = d then (if fH d = none then none else some o2) else fH a)) = fH a
    by_cases z : a = d
    · subst z
      rw [if_pos rfl, if_pos rfl]
      cases e : fH a with
      | none => simp
      | some o =>
        have e2 := r.frm.app a o nb e
        rw [hd] at e2
        cases e2
        simp
    · rw [if_neg z, if_neg z]
  show Fr.mk fg _ = Fr.mk fg fH
  congr 1
  funext a
  exact this a
theorem vs_forK {tg : Expr} {body : List Stmt} {x : PySem.Str} {px : Pos} {i : Nat} {is : List Nat} {g : DG} {u : DS} (hp : PassesOwn (model X.prog X.w) X.A X.env X.xe) (hc : X.calm = true) (hi : X.N[i]? = some x) (hv : Vis X.env.scope x) (hg : VG X is tg g) (hb : VSs fr X body u)
    (hs : ∀ x', foldedSetIterable (.Name x px) X.env x' = pure x' := by intro _; rfl) (hd : (x == ("__debug__" : PySem.Str)) = false := by decide) (hcd : (x == ("__classdict__" : PySem.Str)) = false := by decide) :
    VS fr X (.For tg (.Name x px) body [] pos) (dFor (viKeys i) g u) :=
  have b := ps_for (pos := pos) hp hc (pi_keys (tg := tg) (pe_var (pos := px) hi hv hd hcd)) hg hb hs
  ps_imp (ps_either (ps_lock b) b) fun E σ H ⟨f, O, ρ, D, r, q, k⟩ => by
    unfold dFor viKeys at q
    split at q
    · next ks ds e =>
      obtain ⟨W, w0, turn, done⟩ := q
      obtain ⟨v, ev, p⟩ := r.sl _ _ e
      obtain ⟨d, kv, e1, na, hd, nd, ek, ra⟩ := Rp.dic_inv p
      subst e1
      subst ek
      rcases hd with hd | ⟨o, hd⟩
      · refine .inl ⟨d, _, hd, trivial, fun od => ⟨_, ev, d, od, rfl, .inl ⟨_, upd_same, ?_⟩⟩⟩
        have rs := r.sw (o2 := .frz od (.dK (kk kv))) na (.inr trivial) hd (.inl hd) (.inr ⟨od, upd_same⟩)
        have nb : d ≠ f.g.b := fun z => na (z ▸ r.ctx.ob)
        have atd : ∀ {O' : Addr → Prop} {H' : Hp}, Kep O (upd H d (.frz od (.dK (kk kv)))) O' H' → H' d = some (.frz od (.dK (kk kv))) ∧ ¬ O' d := fun kp => kp d _ na upd_same
        have kepB : ∀ {O' : Addr → Prop} {H' : Hp}, Kep O (upd H d (.frz od (.dK (kk kv)))) O' H' → Kep O H O' (upd H' d (.dK (kk kv))) := fun {O' H'} kp a o no ea => by
          by_cases z : a = d
          · subst z
            rw [hd] at ea
            cases ea
            exact ⟨upd_same, (atd kp).2⟩
          · obtain ⟨x1, x2⟩ := kp a o no (by rw [upd_ne z]; exact ea)
            exact ⟨by rw [upd_ne z]; exact x1, x2⟩
        have relB : ∀ {O' : Addr → Prop} {H' : Hp} {σ' : L2.St} {ρ' : Ev}, Rel (f.lock d (.frz od (.dK (kk kv)))) O' H' σ' ρ' → Kep O (upd H d (.frz od (.dK (kk kv)))) O' H' → Rel f O' (upd H' d (.dK (kk kv))) σ' ρ' := fun {O' H' σ' ρ'} r' kp => by
          obtain ⟨h1, h2⟩ := atd kp
          have back := r'.sw (o2 := .dK (kk kv)) h2 (.inr trivial) h1 (.inr ⟨od, h1⟩) (.inl upd_same)
          rw [lock_back r nb hd] at back
          exact back
        refine for_body rs (goes_keys na upd_same) W w0 turn done ⟨fun O' ρ' σ' H' m r' kp => ⟨(atd kp).1, k.nx _ _ _ _ m (relB r' kp) (kepB kp)⟩, fun dd v O' H' m kp rt => ⟨(atd kp).1, ?_⟩,
          fun O' ρ' σ' H' m r' kp => ⟨(atd kp).1, k.bk _ _ _ _ m (relB r' kp) (kepB kp)⟩, fun O' ρ' σ' H' m r' kp => ⟨(atd kp).1, k.ct _ _ _ _ m (relB r' kp) (kepB kp)⟩⟩
        refine k.rt dd v O' _ m (kepB kp) ?_
        obtain ⟨h1, h2⟩ := atd kp
        obtain ⟨n, rest⟩ := rt
        obtain ⟨l, cs, ow, hl, lb⟩ := r.ctx.bag.own
        have dl : d ≠ l := fun z => na (z ▸ r.ctx.ol l ow)
        have ow1 : Own (f.lock d (.frz od (.dK (kk kv)))).H f.g.b l ∨ True := .inr trivial
        have fH : ∀ a, a ≠ d → (f.lock d (.frz od (.dK (kk kv)))).H a = f.H a := fun a z => by show (if a = d then _ else _) = _; rw [if_neg z]
        have owH : Own H' f.g.b l := by
          obtain ⟨l0, cs0, ow0, _, _⟩ := r.ctx0.bag.own
          have e0 : l0 = l := Own.fn (ow0.chb r.frm) ow
          subst e0
          obtain ⟨x1, y1, s1, e1⟩ := ow0
          obtain ⟨a1, a2, a3, e2⟩ := n.c.fo x1 y1 s1 (.ref l0) (by show (f.lock d (.frz od (.dK (kk kv)))).H f.g.b = _; rw [fH _ nb.symm]; exact e1)
          exact ⟨a1, a2, a3, e2⟩
        obtain ⟨bg, _⟩ := Bag.set (o := .dK (kk kv)) n.bag owH nb dl
        have nx : Nxt f.g f.H (upd H' d (.dK (kk kv))) := by
          refine ⟨⟨fun a o ne ea => ?_, fun x1 y1 s1 l1 ea => ?_⟩, bg⟩
          · by_cases z : a = d
            · subst z
              have e2 := r.frm.app a o ne ea
              rw [hd] at e2
              cases e2
              exact upd_same
            · rw [upd_ne z]
              exact n.c.app a o ne (by rw [fH _ z]; exact ea)
          · obtain ⟨a1, a2, a3, e2⟩ := n.c.fo x1 y1 s1 l1 (by show (f.lock d (.frz od (.dK (kk kv)))).H f.g.b = _; rw [fH _ nb.symm]; exact ea)
            exact ⟨a1, a2, a3, by rw [upd_ne nb.symm]; exact e2⟩
        have keep : ∀ a o, a ≠ d → H' a = some o → upd H' d (.dK (kk kv)) a = some o := fun a o z ea => by rw [upd_ne z]; exact ea
        refine ⟨nx, ?_⟩
        cases fr with
        | false => exact Rp.sw keep (.inr ⟨od, h1⟩) (.inl upd_same) _ _ rest
        | true =>
          obtain ⟨a, e1, na2, oc⟩ := rest
          have ad : a ≠ d := fun z => by
            subst z
            cases dd with
            | lst ds => obtain ⟨xs, e2, _⟩ := oc; rw [h1] at e2; cases e2
            | dic ks ds => obtain ⟨kv2, e2, _⟩ := oc; rw [h1] at e2; cases e2
            | _ => exact oc.elim
          refine ⟨a, e1, by rw [← fH _ ad]; exact na2, oc.sw keep (.inr ⟨od, h1⟩) (.inl upd_same) ad⟩
      · refine .inr ⟨_, ev, d, o, rfl, .inl ⟨_, hd, ?_⟩⟩
        exact for_body r (goes_keys na hd) W w0 turn done k
    · exact q.elim
end
end VL
/-! A deed on files that the caller owns: the statement. -/
namespace VL
open PySem PySem.Spec PyProof.Rows L2 TL RX
open _root_.DK (Fl fsD getF dropF mem_get get_mem get_none)
def dV : Deed → List V
  | .put x c => [.str "put", .str x, .str c]
  | .drop x => [.str "drop", .str x]
  | .move x y => [.str "move", .str x, .str y]
def spDeed : Sp := fun vs H Q _ => ∃ (a t : Addr) (F : Fl) (d : Deed), vs = [.ref a, .ref t] ∧ H a = some (.dK (kfS F)) ∧ (F.map (·.1)).Nodup ∧ F.length ≤ 1000 ∧ H t = some (.tup (dV d)) ∧ Q .non (upd H a (.dK (kfS (aft1 F d))))
theorem upd_upd_same {H : Hp} {a : Addr} {o u : HO} : upd (upd H a o) a u = upd H a u := by
  funext x
  by_cases z : x = a
  · rw [z, upd_same, upd_same]
  · rw [upd_ne z, upd_ne z, upd_ne z]
theorem kfS_val (F : Fl) (x : PySem.Str) : valV (kfS F) (Sum.inr x) = (getF F x).map V.str := by rw [show kfS F = _root_.DK.kf F from (_root_.DK.kf_eq F).symm]; exact _root_.DK.kf_val F x
theorem kfS_put (F : Fl) (x c : PySem.Str) : putK (kfS F) (Sum.inr x) (.str c) = kfS (_root_.DK.putF F x c) := by rw [show kfS F = _root_.DK.kf F from (_root_.DK.kf_eq F).symm, _root_.DK.kf_put, _root_.DK.kf_eq]
theorem kfS_drop (F : Fl) (x : PySem.Str) : dropK (kfS F) (Sum.inr x) = kfS (dropF F x) := by rw [show kfS F = _root_.DK.kf F from (_root_.DK.kf_eq F).symm, _root_.DK.kf_drop, _root_.DK.kf_eq]
/-- a deed done on a slot's own files -/
def dDeed (i : Nat) (t : DE) : DS := fun D ρ => match ρ[i]? with
  | some (some (.own x)) => t ρ fun y => ∃ (F : Fl) (d : Deed), x = fsD F ∧ y = dD d ∧ (F.map (·.1)).Nodup ∧ F.length ≤ 1000 ∧ D.nx (ρ.set i (some (.own (fsD (aft1 F d)))))
  | _ => False
theorem dV_of {g : Geo} {H : Hp} {v : V} {d : Deed} (p : Rp g H v (dD d)) : ∃ t, v = .ref t ∧ H t = some (.tup (dV d)) := by
  cases d with
  | put x c =>
    obtain ⟨t, xs, e, _, ht, ra⟩ := Rp.tup_inv (ds := [.str "put", .str x, .str c]) p
    cases ra with | cons a1 ra => cases ra with | cons a2 ra => cases ra with | cons a3 ra => cases ra; exact ⟨t, e, by rw [ht, a1.str_inv, a2.str_inv, a3.str_inv]; rfl⟩
  | drop x =>
    obtain ⟨t, xs, e, _, ht, ra⟩ := Rp.tup_inv (ds := [.str "drop", .str x]) p
    cases ra with | cons a1 ra => cases ra with | cons a2 ra => cases ra; exact ⟨t, e, by rw [ht, a1.str_inv, a2.str_inv]; rfl⟩
  | move x y =>
    obtain ⟨t, xs, e, _, ht, ra⟩ := Rp.tup_inv (ds := [.str "move", .str x, .str y]) p
    cases ra with | cons a1 ra => cases ra with | cons a2 ra => cases ra with | cons a3 ra => cases ra; exact ⟨t, e, by rw [ht, a1.str_inv, a2.str_inv, a3.str_inv]; rfl⟩
theorem own_fs {g : Geo} {H : Hp} {a : Addr} {F : Fl} (ha : H a = some (.dK (kfS F))) (nd : (F.map (·.1)).Nodup) : OwnC g H a (fsD F) := by
  refine ⟨F.map fun p => (p.1, V.str p.2), ?_, ?_, ?_, ?_⟩
  · rw [ha]; unfold kk; rw [List.map_map]; rfl
  · rw [List.map_map]; exact nd
  · rw [List.map_map]; rfl
  · rw [List.map_map]
    have : ∀ F : Fl, RpAll g H (F.map ((fun x => x.2) ∘ fun p => (p.1, V.str p.2))) (F.map fun p => Dt.str p.2) := fun F => by
      induction F with
      | nil => exact .nil
      | cons p F ih => exact .cons (.str _) ih
    exact this F
section
variable {X : Cx} {e : Expr} {pos p px cpos : Pos} {fr : Bool} {k : Nat} {fa : Addr} {fd : FuncData}
theorem vs_deed {i : Nat} {x : PySem.Str} {t : DE} (FD : Ok0 X.prog X.w X.K X.mg X.base k fa fd ["files", "deed"] spDeed) (hgd : X.A.guards = some []) (hr : Room k X.A) (hg : Gl X "do_deed") (hm : X.mg "do_deed" = some (.ref fa)) (hk : PySem.W.keepIn X.K (.ref fa) = true)
    (hb : Binds X.K fd ["files", "deed"] []) (hN : X.N[i]? = some x) (hv : Vis X.env.scope x) (ht : VE X e t)
    (hd : (x == ("__debug__" : PySem.Str)) = false := by decide) (hcd : (x == ("__classdict__" : PySem.Str)) = false := by decide)
    (he : starEach [.Name x px, e] X.env = (false, eval (.Name x px) X.env) :: starEach [e] X.env := by rfl) (hpl : (backTo cpos (starEach [e] X.env)).any (·.1) = false := by rfl) (hs1 : starEach [e] X.env = (false, eval e X.env) :: starEach [] X.env := by rfl)
    (hsw : swapsWith (.Call (.Name "do_deed" p) [.Name x px, e] [] cpos) none pos.line X.env = pure false := by rfl) :
    VS fr X (.Expr (.Call (.Name "do_deed" p) [.Name x px, e] [] cpos) pos) (dDeed i t) :=
  ps_imp (ps_expr (pe_call00 FD hgd hr hg hm hk hb (pa_cons (pe_var hN hv hd hcd) (pa_cons ht pa_nil hs1) he) (by decide) he hpl) hsw) fun E σ H ⟨f, O, ρ, D, r, q, k⟩ => by
    unfold dDeed at q
    split at q
    · next x' ei =>
      obtain ⟨v, ev, a, e1, oa, fa', oc⟩ := r.sl _ _ ei
      subst e1
      refine ⟨_, ev, f, O, ρ, _, r, q, fun y v H1 m n p => ?_⟩
      obtain ⟨F, d, rfl, rfl, nd, few, m⟩ := m
      have r1 := r.nxt n
      obtain ⟨v', ev', a', e1', oa', fa2, oc'⟩ := r1.sl _ _ ei
      rw [ev] at ev'
      cases ev'; cases e1'
      obtain ⟨kv, ha, ndk, ek, rr⟩ := oc'
      have ekk := kk_strs ek rr
      obtain ⟨t, rfl, htt⟩ := dV_of p
      refine ⟨a, t, F, d, rfl, by rw [← ekk]; exact ha, nd, few, htt, ?_⟩
      exact k.nx _ _ _ _ m (r1.chg ei ev (own_fs upd_same (aft1_nd nd d))) ((n.kep r.ctx).trans fun y u no eq => ⟨by rw [upd_ne (fun z : y = a => no (z ▸ oa))]; exact eq, no⟩)
    · exact q.elim
end
end VL
/-! in_order, after, begun_puts. -/
namespace VL
open PySem PySem.Spec PyProof.Rows L2 TL RX
open _root_.DK (Fl fsD Tm getF dropF Ord mem_get get_mem get_none get_put)
/-- an argument to be looked into: data, or a thing of the caller's -/
def lookA : Bool → Dt → Ar
  | true, x => .ro x
  | false, x => .d x
/-- what a put has written when it is cut -/
def begunF (F : Fl) : Deed → List Dt
  | .put x c => (List.range c.length).map fun i => fsD (_root_.DK.putF F x (cutS c none (some (i : Nat))))
  | _ => []
end VL
/-! Logs that are to be done again: purely. -/
namespace VL
open PySem PySem.Spec PyProof.Rows L2 TL RX
open _root_.DK (Fl fsD getF putF dropF Ord get_mem get_none mem_get TrP treeF behind begins Lg wordsD logD logT headT rowsT readR readG readD Tm Nz Sl Bk Nl isNm isPath isShelf ShP numP stepB lockB allD num)
def shOf : List (List PySem.Str) → List PySem.Str
  | [] => []
  | [_, _, s] :: L => s :: shOf L
  | _ :: L => shOf L
def shG (g : Lg) : List PySem.Str := shOf g.1 ++ [g.2]
def sdeed (F : Fl) : List PySem.Str → Deed
  | [_, y, s] => .put ("tree/" ++ y) ((getF F s).getD "")
  | ws => .drop ("tree/" ++ ws.getD 1 "")
def ldeeds (F : Fl) (g : Lg) : List Deed := g.1.map (sdeed F) ++ [.put "lock" ((getF F g.2).getD ""), .drop "log"]
def logG (F : Fl) : Option Lg := (getF F "log").bind readG
def lgD : Option Lg → Dt
  | some g => logD g
  | none => .non
def dropIf (F : Fl) (x : PySem.Str) : List Deed := if x ∈ F.map (·.1) then [.drop x] else []
instance (F : Fl) (g : Lg) : Decidable (∀ s ∈ shG g, s ∈ F.map (·.1)) := inferInstance
def mendL (F : Fl) : List Deed := match logG F with
  | some g => if ∀ s ∈ shG g, s ∈ F.map (·.1) then ldeeds F g else dropIf F "log"
  | none => dropIf F "log"
def mendD (F : Fl) : List Deed := mendL F ++ dropIf F "log-new"
theorem shOf_snoc (L : List (List PySem.Str)) (ws : List PySem.Str) : shOf (L ++ [ws]) = shOf L ++ shOf [ws] := by
  induction L with
  | nil => rfl
  | cons a L ih =>
    match a with
    | [_, _, s] => show s :: shOf (L ++ [ws]) = _; rw [ih]; rfl
    | [] => exact ih
    | [_] => exact ih
    | [_, _] => exact ih
    | _ :: _ :: _ :: _ :: _ => exact ih
theorem shOf_len (L : List (List PySem.Str)) : (shOf L).length ≤ L.length := by
  induction L with
  | nil => exact Nat.le_refl _
  | cons a L ih =>
    rw [List.length_cons]
    match a with
    | [_, _, s] => show (shOf L).length + 1 ≤ _; omega
    | [] => exact Nat.le_succ_of_le ih
    | [_] => exact Nat.le_succ_of_le ih
    | [_, _] => exact Nat.le_succ_of_le ih
    | _ :: _ :: _ :: _ :: _ => exact Nat.le_succ_of_le ih
theorem shOf_mem {L : List (List PySem.Str)} {a y s : PySem.Str} (h : [a, y, s] ∈ L) : s ∈ shOf L := by
  induction L with
  | nil => cases h
  | cons b L ih =>
    rcases List.mem_cons.mp h with e | h
    · rw [← e]; exact List.mem_cons_self
    · have := ih h
      match b with
      | [_, _, z] => exact List.mem_cons_of_mem _ this
      | [] => exact this
      | [_] => exact this
      | [_, _] => exact this
      | _ :: _ :: _ :: _ :: _ => exact this
theorem shOf_of {L : List (List PySem.Str)} {s : PySem.Str} (h : s ∈ shOf L) : ∃ a y, [a, y, s] ∈ L := by
  induction L with
  | nil => cases h
  | cons b L ih =>
    have rest : s ∈ shOf L → ∃ a y, [a, y, s] ∈ b :: L := fun h => by
      obtain ⟨a, y, m⟩ := ih h
      exact ⟨a, y, List.mem_cons_of_mem _ m⟩
    match b with
    | [a, y, z] =>
      rcases List.mem_cons.mp h with e | h
      · rw [e]; exact ⟨a, y, List.mem_cons_self⟩
      · exact rest h
    | [] => exact rest h
    | [_] => exact rest h
    | [_, _] => exact rest h
    | _ :: _ :: _ :: _ :: _ => exact rest h
/-- a log that may be read -/
structure GV (n k : Nat) (g : Lg) : Prop where
  st : ∀ ws ∈ g.1, stepB ws = true
  w : ∀ ws ∈ g.1, ∀ x ∈ ws, Tm n k x
  sh : isShelf g.2 = true
  l : Tm n k g.2
theorem lockB_two {ws : List PySem.Str} (h : lockB ws = true) : ∃ a s, ws = [a, s] ∧ isShelf s = true := by
  match ws, h with
  | [a, s], h =>
    have h' : (decide (V.str a = V.str "lock") && isShelf s) = true := h
    rw [Bool.and_eq_true] at h'
    exact ⟨a, s, rfl, h'.2⟩
  | [], h => cases h
  | [_], h => cases h
  | _ :: _ :: _ :: _, h => cases h
theorem readG_gv {n k : Nat} {t : PySem.Str} (h : Tm n k t) {g : Lg} (e : readG t = some g) : GV n k g ∧ g.1.length + 2 = (Txt.split t Nl).length := by
  unfold readG at e
  have ok : ∀ ws ∈ rowsT t, ∀ x ∈ ws, Tm n k x := fun ws hw x hx => by
    unfold rowsT at hw
    obtain ⟨y, hy, rfl⟩ := List.mem_map.mp hw
    exact (h.piece _root_.DK.tl_nl (by decide +kernel) hy).piece _root_.DK.tl_bk (by decide +kernel) hx
  have ll : (rowsT t).length = (Txt.split t Nl).length := by unfold rowsT; rw [List.length_map]
  cases hr : rowsT t with
  | nil => rw [hr] at e; cases e
  | cons first rest =>
    rw [hr] at e ok ll
    have e' : (if rest ≠ [] ∧ first = [("log" : PySem.Str), num ((rest.length - 1 : Nat) : Int)] then readR rest else none) = some g := e
    by_cases c : rest ≠ [] ∧ first = [("log" : PySem.Str), num ((rest.length - 1 : Nat) : Int)]
    · rw [if_pos c] at e'
      unfold readR at e'
      by_cases c2 : rest.dropLast.all stepB = true ∧ lockB (rest.getLastD []) = true
      · rw [if_pos c2] at e'
        cases e'
        have l1 : 1 ≤ rest.length := List.length_pos_iff.mpr c.1
        obtain ⟨a, s, ex, hs⟩ := lockB_two c2.2
        have lm : [a, s] ∈ rest := by rw [← ex]; exact _root_.DK.last_mem c.1
        refine ⟨⟨fun ws hw => List.all_eq_true.mp c2.1 ws hw, fun ws hw x hx => ok ws (List.mem_cons_of_mem _ (List.dropLast_subset _ hw)) x hx, ?_, ?_⟩, ?_⟩
        · show isShelf ((rest.getLastD []).getD 1 "") = true
          rw [ex]; exact hs
        · show Tm n k ((rest.getLastD []).getD 1 "")
          rw [ex]; exact ok _ (List.mem_cons_of_mem _ lm) s (by simp)
        · show rest.dropLast.length + 2 = _
          rw [← ll, List.length_cons, List.length_dropLast]; omega
      · rw [if_neg c2] at e'; cases e'
    · rw [if_neg c] at e'; cases e'
/-! words of valid logs have neither blanks nor line feeds -/
theorem nz_free : ∀ c ∈ Nz.cps.toList, c ≠ 32 ∧ c ≠ 10 ∧ c ≠ 47 := by decide +kernel
theorem path_free {x : PySem.Str} (h : isPath x = true) : (32 : Nat) ∉ tl x ∧ (10 : Nat) ∉ tl x := by
  have e : x = Txt.join Sl (Txt.split x Sl) := (_root_.DK.split_iff (x := x) (ps := Txt.split x Sl) _root_.DK.tl_sl (by decide +kernel) (_root_.DK.split_ne _root_.DK.tl_sl (by decide +kernel)) (_root_.DK.split_free _root_.DK.tl_sl (by decide +kernel))).mp rfl
  have key : ∀ c, c = 32 ∨ c = 10 → c ∉ tl x := fun c hc m => by
    rw [e] at m
    rcases _root_.DK.mem_join m with m | ⟨p, hp, m⟩
    · rw [_root_.DK.tl_sl, List.mem_singleton] at m; omega
    · have := (_root_.DK.name_sign (List.all_eq_true.mp h p hp)).1 c m
      have := nz_free c this
      omega
  exact ⟨key 32 (.inl rfl), key 10 (.inr rfl)⟩
theorem shelf_free {x : PySem.Str} (h : isShelf x = true) : (32 : Nat) ∉ tl x ∧ (10 : Nat) ∉ tl x := by
  unfold isShelf numP at h
  by_cases c : begins ShP x = true ∧ allD (behind ShP x) = true ∧ (behind ShP x).length ≤ 19 ∧ _root_.DK.good (behind ShP x) = true
  · have e := _root_.DK.begins_eq c.1
    have a := _root_.DK.digit_free c.2.1 (s := 32) (.inl (by decide))
    have b := _root_.DK.digit_free c.2.1 (s := 10) (.inl (by decide))
    generalize behind ShP x = w at e a b
    rw [e, tl_append]
    exact ⟨fun m => (List.mem_append.mp m).elim (by decide +kernel) a, fun m => (List.mem_append.mp m).elim (by decide +kernel) b⟩
  · rw [if_neg c] at h; cases h
theorem step_free {ws : List PySem.Str} (h : stepB ws = true) : (∀ x ∈ ws, (32 : Nat) ∉ tl x ∧ (10 : Nat) ∉ tl x) ∧ ws ≠ [] := by
  rcases _root_.DK.step_cases h with ⟨y, rfl, hy⟩ | ⟨y, s, rfl, hy, hs⟩
  · refine ⟨fun x hx => ?_, by simp⟩
    simp only [List.mem_cons, List.not_mem_nil, or_false] at hx
    rcases hx with rfl | rfl
    · exact ⟨by decide +kernel, by decide +kernel⟩
    · exact path_free hy
  · refine ⟨fun x hx => ?_, by simp⟩
    simp only [List.mem_cons, List.not_mem_nil, or_false] at hx
    rcases hx with rfl | rfl | rfl
    · exact ⟨by decide +kernel, by decide +kernel⟩
    · exact path_free hy
    · exact shelf_free hs
theorem line_of {ws : List PySem.Str} (h : (∀ x ∈ ws, (32 : Nat) ∉ tl x ∧ (10 : Nat) ∉ tl x) ∧ ws ≠ []) : Txt.split (Txt.join Bk ws) Bk = ws ∧ (10 : Nat) ∉ tl (Txt.join Bk ws) := by
  refine ⟨(_root_.DK.split_iff _root_.DK.tl_bk (by decide +kernel) h.2 fun p hp => (h.1 p hp).1).mpr rfl, fun m => ?_⟩
  rcases _root_.DK.mem_join m with m | ⟨p, hp, m⟩
  · rw [_root_.DK.tl_bk] at m; exact absurd (List.mem_singleton.mp m) (by decide)
  · exact (h.1 p hp).2 m
theorem headT_free (n : Nat) : (10 : Nat) ∉ tl (headT n) := by
  unfold headT
  rw [tl_append]
  exact fun m => (List.mem_append.mp m).elim (by decide +kernel) (_root_.DK.num_free n (.inl (by decide)))
theorem lock_line {s : PySem.Str} (h : isShelf s = true) : Txt.split ("lock " ++ s) Bk = [("lock" : PySem.Str), s] ∧ (10 : Nat) ∉ tl ("lock " ++ s : PySem.Str) := by
  obtain ⟨a, b⟩ := shelf_free h
  refine ⟨?_, ?_⟩
  · refine (_root_.DK.two_words (by decide +kernel) a).mpr ?_
    rw [show (("lock" : PySem.Str) ++ " " : PySem.Str) = "lock " from by decide +kernel]
  · rw [tl_append]
    exact fun m => (List.mem_append.mp m).elim (by decide +kernel) b
/-- a valid log is read from its text -/
theorem read_logT {n k : Nat} {g : Lg} (h : GV n k g) : readG (logT g) = some g := by
  have hsp : Txt.split (logT g) Nl = headT g.1.length :: (g.1.map (Txt.join Bk) ++ ["lock " ++ g.2]) := by
    refine (_root_.DK.split_iff _root_.DK.tl_nl (by decide +kernel) (by simp) fun p hp => ?_).mpr rfl
    rcases List.mem_cons.mp hp with e | hp
    · rw [e]; exact headT_free _
    · rcases List.mem_append.mp hp with hp | hp
      · obtain ⟨ws, hw, rfl⟩ := List.mem_map.mp hp
        exact (line_of (step_free (h.st ws hw))).2
      · rw [List.mem_singleton.mp hp]; exact (lock_line h.sh).2
  have hrows : rowsT (logT g) = [("log" : PySem.Str), num (g.1.length : Nat)] :: (g.1 ++ [[("lock" : PySem.Str), g.2]]) := by
    unfold rowsT
    rw [hsp, List.map_cons, (_root_.DK.head_line (headT g.1.length) g.1.length).mpr rfl, List.map_append, List.map_map, List.map_singleton, (lock_line h.sh).1]
    congr 2
    have : ∀ L : List (List PySem.Str), (∀ ws ∈ L, stepB ws = true) → L.map ((fun l => Txt.split l Bk) ∘ Txt.join Bk) = L := by
      intro L
      induction L with
      | nil => intro _; rfl
      | cons a L ih =>
        intro hL
        rw [List.map_cons, ih fun ws hw => hL ws (List.mem_cons_of_mem _ hw)]
        show Txt.split (Txt.join Bk a) Bk :: L = _
        rw [(line_of (step_free (hL a List.mem_cons_self))).1]
    exact this g.1 h.st
  unfold readG
  rw [hrows]
  show (if (g.1 ++ [[("lock" : PySem.Str), g.2]]) ≠ [] ∧ _ then _ else _) = _
  rw [if_pos ⟨by simp, by rw [List.length_append]; simp⟩]
  unfold readR
  have e1 : (g.1 ++ [[("lock" : PySem.Str), g.2]]).dropLast = g.1 := by simp
  have e2 : (g.1 ++ [[("lock" : PySem.Str), g.2]]).getLastD [] = [("lock" : PySem.Str), g.2] := by rw [List.getLastD_eq_getLast?]; simp
  have e3 : lockB [("lock" : PySem.Str), g.2] = true := by
    show (decide (V.str "lock" = V.str "lock") && isShelf g.2) = true
    rw [h.sh, decide_eq_true rfl]; rfl
  rw [e1, e2, if_pos ⟨List.all_eq_true.mpr fun ws hw => h.st ws hw, e3⟩]
  rfl
end VL
/-! Logs that are to be done again, by data. -/
namespace VL
open PySem PySem.Spec PyProof.Rows L2 TL RX
open _root_.DK (Fl fsD getF putF dropF Ord get_mem get_none mem_get get_perm TrP treeF behind begins Lg wordsD logD logT headT rowsT readR readG readD Tm Nz Sl Bk Nl isNm isPath isShelf ShP numP stepB lockB allD num)
theorem map_snoc {α β : Type} {f : α → β} {l : List α} {i : Nat} {a : α} (h : l[i]? = some a) : (l.take i).map f ++ [f a] = (l.take (i + 1)).map f := by rw [take_snoc h, List.map_append]; rfl
theorem t5 : ("tree/" : PySem.Str).length = 5 := by decide +kernel
theorem dropIf_dt (F : Fl) (x : PySem.Str) : (dropIf F x).map dD = (if x ∈ F.map (·.1) then [dropR x] else []) := by
  unfold dropIf
  split <;> rfl
theorem dropIf_len (F : Fl) (x : PySem.Str) : (dropIf F x).length ≤ 1 := by
  unfold dropIf
  split
  · exact Nat.le_refl _
  · exact Nat.zero_le _
theorem lines_le {t : PySem.Str} : (Txt.split t Nl).length ≤ t.length + 1 := _root_.DK.split_many _root_.DK.tl_nl (by decide +kernel)
theorem tm_self {t : PySem.Str} {n k : Nat} (h : Tm n k t) : Tm t.length k t := ⟨Nat.le_refl _, h.dig, h.ok⟩
/-- the log of some files -/
theorem logG_gv {F : Fl} {n k : Nat} (h : ∀ c, getF F "log" = some c → Tm n k c) {g : Lg} (e : logG F = some g) : GV n k g ∧ g.1.length ≤ n := by
  unfold logG at e
  cases hc : getF F "log" with
  | none => rw [hc] at e; cases e
  | some c =>
    rw [hc] at e
    have tc := h c hc
    obtain ⟨a, b⟩ := readG_gv tc e
    have := lines_le (t := c)
    have := tc.len
    exact ⟨a, by omega⟩
theorem mendL_len {F : Fl} {n k : Nat} (h : ∀ c, getF F "log" = some c → Tm n k c) : (mendL F).length ≤ n + 2 := by
  have dl := dropIf_len F "log"
  unfold mendL
  cases e : logG F with
  | none => show (dropIf F "log").length ≤ _; omega
  | some g =>
    have := (logG_gv h e).2
    show (if ∀ s ∈ shG g, s ∈ F.map (·.1) then ldeeds F g else dropIf F "log").length ≤ _
    split
    · unfold ldeeds; rw [List.length_append, List.length_map]; show _ + 2 ≤ _; omega
    · omega
theorem all_dec {α : Type} [DecidableEq α] (l m : List α) : ((l.map fun x => decide (x ∈ m)).all id) = decide (∀ s ∈ l, s ∈ m) := by
  rw [List.all_map]
  by_cases h : ∀ s ∈ l, s ∈ m
  · rw [decide_eq_true h]
    exact List.all_eq_true.mpr fun x hx => decide_eq_true (h x hx)
  · rw [decide_eq_false h]
    refine Bool.not_eq_true _ |>.mp fun z => h fun s hs => ?_
    exact of_decide_eq_true (List.all_eq_true.mp z s hs)
def optS : Option PySem.Str → Dt
  | some c => .str c
  | none => .non
theorem look_opt (F : Fl) (x : PySem.Str) : (lookD (F.map (·.1)) (F.map fun p => Dt.str p.2) x).getD .non = optS (getF F x) := by
  rw [look_fs]
  cases getF F x <;> rfl
theorem aft_nd {F : Fl} (h : (F.map (·.1)).Nodup) : ∀ ds, ((aft F ds).map (·.1)).Nodup := fun ds => by
  induction ds generalizing F with
  | nil => exact h
  | cons d ds ih => exact ih (aft1_nd h d)
theorem Ord.trans' {F G H : Fl} (a : Ord G H) (p : G.Perm F) : Ord F H := ⟨a.s, a.p.trans p⟩
end VL
/-! begun_puts, all_cuts. -/
namespace VL
open PySem PySem.Spec PyProof.Rows L2 TL RX
open _root_.DK (Fl fsD Tm getF dropF putF Ord mem_get get_mem get_none get_put put_nd put_len)

/-- the files behind each deed before the last one, and what is begun of the next -/
inductive CutP (F : Fl) : List Deed → List Dt → Prop
  | nil : CutP F [] []
  | snoc {ds : List Deed} {L : List Dt} {G B : Fl} {e : Deed} (h : CutP F ds L) (g : Ord (aft F ds) G) (b : ∀ x c, e = .put x c → Ord (putF (aft F ds) x "") B) : CutP F (ds ++ [e]) (L ++ [fsD G] ++ begunF B e)
theorem begunF_len (B : Fl) (e : Deed) (h : ∀ x c, e = .put x c → c.length ≤ 999) : (begunF B e).length ≤ 999 := by
  cases e with
  | put x c => unfold begunF; rw [List.length_map, List.length_range]; exact h x c rfl
  | drop x => exact Nat.zero_le _
  | move x y => exact Nat.zero_le _
end VL
/-! own.remove(text). -/
namespace VL
open PySem PySem.Spec PyProof.Rows L2 TL RX
/-- the text out of the list once -/
def eraS (k : PySem.Str) : List PySem.Str → List PySem.Str
  | [] => []
  | z :: zs => if z = k then zs else z :: eraS k zs
theorem era_at {k : PySem.Str} : ∀ {zs : List PySem.Str}, k ∈ zs → ∃ j, j < zs.length ∧ zs[j]? = some k ∧ (∀ i, i < j → zs[i]? ≠ some k) ∧ zs.eraseIdx j = eraS k zs
  | [], h => nomatch h
  | z :: zs, h => by
    by_cases e : z = k
    · exact ⟨0, Nat.succ_pos _, by rw [e]; rfl, fun i hi => absurd hi (Nat.not_lt_zero _), by unfold eraS; rw [if_pos e]; rfl⟩
    · obtain ⟨j, h1, h2, h3, h4⟩ := era_at ((List.mem_cons.mp h).resolve_left fun x => e x.symm)
      refine ⟨j + 1, Nat.succ_lt_succ h1, h2, fun i hi => ?_, by unfold eraS; rw [if_neg e, ← h4]; rfl⟩
      cases i with
      | zero => exact fun x => e (Option.some.inj x)
      | succ i => exact h3 i (Nat.lt_of_succ_lt_succ hi)
theorem era_len (k : PySem.Str) : ∀ zs : List PySem.Str, (eraS k zs).length ≤ zs.length
  | [] => Nat.le_refl _
  | z :: zs => by
    unfold eraS
    split
    · exact Nat.le_succ _
    · exact Nat.succ_le_succ (era_len k zs)
theorem map_era (f : PySem.Str → V) : ∀ (zs : List PySem.Str) (j : Nat), (zs.map f).eraseIdx j = (zs.eraseIdx j).map f
  | [], _ => rfl
  | _ :: _, 0 => rfl
  | z :: r, j + 1 => by
    show f z :: (r.map f).eraseIdx j = f z :: (r.eraseIdx j).map f
    rw [map_era f r j]
section
variable {X : Cx}
theorem mt_removeS : MtR X "list.remove" (fun x vs H Q => ∃ (l : Addr) (zs : List PySem.Str) (k : PySem.Str), x = .ref l ∧ vs = [.str k] ∧ H l = some (.lst (zs.map V.str)) ∧ k ∈ zs ∧ Q .non (upd H l (.lst ((eraS k zs).map V.str)))) := by
  intro pins s σ H x vs v us Q I rx rv h
  obtain ⟨l, zs, k, rfl, rfl, hH, hk, q⟩ := h
  cases rx
  obtain ⟨u, rfl, ru⟩ := rv.one
  obtain ⟨t, rfl⟩ := ru
  obtain ⟨z, its, n, r, hl, e⟩ := I.lstM hH
  have hi : StrsAre its zs := r.strs
  have hnl : zs.length = its.length := by rw [← hl, List.length_map]
  obtain ⟨j, j1, j2, j3, j4⟩ := era_at hk
  have hj : j < its.length := by omega
  have at_ : ∀ (i : Nat) (h : i < its.length), isStrOf k its[i] = true ↔ zs[i]? = some k := fun i h => by
    have h2 : i < zs.length := by omega
    rw [SeqAt.isStrOf_at k hi i h h2, beq_iff_eq, List.getElem?_eq_getElem h2, Option.some_inj]
  refine call_meets PySem.F.slot_list_remove ⟨_, e, rfl⟩ PySem.F.entry_list_remove (PySem.F.args_list_remove_2 _ _)
    (MeetsSeq.list_remove l its.toArray n (.str k t) (isStrOf k) (fun y hy => eq_isStrOf k t hi y (by simpa using hy)) j (by rw [List.size_toArray]; exact hj) ?hit (fun i hi2 hlt => ?hno) (by rw [List.size_toArray, ← hl]; exact z)) ⟨e, ?_⟩
  case hit =>
    show isStrOf k its[j] = true
    exact (at_ j hj).mpr j2
  case hno =>
    have hi3 : i < its.length := by rw [List.size_toArray] at hi2; exact hi2
    show isStrOf k its[i] = false
    rw [Bool.eq_false_iff]
    exact fun w => j3 i hlt ((at_ i hi3).mp w)
  have r2 : Vals ((eraS k zs).map V.str) (its.eraseIdx j) := by
    have w := r.eraseIdx j
    rw [map_era, j4] at w
    exact w
  refine ⟨.non, _, I.lset (its' := its.eraseIdx j) hH e ?_ r2 ?_, rfl, q⟩
  · show its.toArray.eraseIdxIfInBounds j = (its.eraseIdx j).toArray
    rw [List.eraseIdxIfInBounds_toArray]
  · rw [List.length_map] at z ⊢
    have := era_len k zs
    omega
def removeSD : DMu
  | .lst ds, [.str k], M => ∃ zs, strsOf ds = some zs ∧ k ∈ zs ∧ M .non (.lst ((eraS k zs).map Dt.str))
  | _, _, _ => False
theorem vmu_removeS : VMu X "list.remove" removeSD := by
  intro pins s σ H x vs v us Q I rx rvs ⟨g, a, d0, ds, M, e, c, oa, nb, oc, p, q, k⟩
  unfold removeSD at q
  split at q
  · cases p with
    | cons p1 p2 =>
      cases p2
      obtain ⟨xs, ha, r⟩ := oc
      obtain ⟨zs, ez, hk, m⟩ := q
      rw [strsOf_eq ez] at r
      rw [rp_strs_inv r] at ha
      exact mt_removeS pins s σ H x _ v us Q I rx rvs ⟨a, zs, _, e, by rw [p1.str_inv], ha, hk, k _ _ _ _ m ⟨_, upd_same, strs_rp _⟩ .non⟩
  · exact q.elim
end
end VL
/-! len(set(texts)) by data. -/
namespace VL
open PySem PySem.Spec PyProof.Rows L2 TL RX
section
variable {X : Cx} {e : Expr}
theorem cr_lenX : CallR X (.builtin "len") (fun vs H Q => ∃ (a : Addr) (xs : List PySem.Str), vs = [.ref a] ∧ H a = some (TX.SXO X.prog X.w a xs) ∧ ∀ ys : List PySem.Str, ys.Nodup → (∀ x, x ∈ ys ↔ x ∈ xs) → Q (.int ys.length) H) := by
  intro pins s σ H vs us Q I r h
  obtain ⟨a, xs, rfl, ha, q⟩ := h
  have R0 : TX.SX X.prog X.w s.heap a xs := (I.hok a _ ha).1
  rw [Vals.ref1 r]
  obtain ⟨o, es, ep, t, ⟨ho, hex, hd⟩, ⟨g, nd, m⟩, ⟨b, hf, l⟩, _⟩ := R0
  have hn : (es.toList.map TX.kt).length = es.size := by rw [List.length_map, Array.length_toList]
  have sb : scanBound < 2 ^ 63 := by unfold scanBound; decide
  refine call_len_set ho hex hd hf (by omega) ⟨.int (es.toList.map TX.kt).length, H, I.tok _, ⟨_, by rw [hn]⟩, q _ nd fun x => (m x).symm⟩
theorem pe_lenSet {te : TE} {p1 p2 p3 p4 : Pos} (hc : X.calm = true) (hg1 : Gl X "len") (hg2 : Gl X "set") (m1 : X.mg "len" = none) (m2 : X.mg "set" = none) (he : PE X e te)
    (h1 : starEach (e :: []) X.env = (false, eval e X.env) :: starEach [] X.env) :
    PE X (.Call (.Name "len" p1) [.Call (.Name "set" p2) [e] [] p3] [] p4) (fun σ H Q => te σ H fun x H1 => ∃ (l : Addr) (xs : List PySem.Str), x = .ref l ∧ H1 l = some (.lst (xs.map V.str)) ∧ xs.length < 64 ∧
      ∀ (H' : Hp) (ys : List PySem.Str), Same H1 H' → ys.Nodup → (∀ x, x ∈ ys ↔ x ∈ xs) → Q (.int ys.length) H') := by
  constructor
  intro pins s σ H Q I h
  have R := pe_callB (X := X) (pos := p4) (p := p1) cr_lenX hg1 m1 (by decide +kernel) (pa_cons (pe_callTy (pos := p3) (p := p2) (TX.cr_setX hc) hg2 m2 (by decide +kernel) (pa_cons (pe_mid he) pa_nil h1) (by decide) (by decide) h1 (by rfl)) pa_nil) (by decide) (by decide) (by rfl) (by rfl)
  refine R.run pins s σ H Q I ⟨_, h, ?_⟩
  rintro x H1 ⟨l, xs, rfl, hl, few, q⟩
  exact ⟨l, xs, rfl, .inl (.inl hl), few, fun a na => ⟨a, xs, rfl, upd_same, fun ys nd mm => q _ ys (new_same na) nd mm⟩⟩
def vLenSetS (t : DE) : DE := fun ρ M => t ρ fun d => match d with
  | .lst ds => ∃ xs, strsOf ds = some xs ∧ xs.length < 64 ∧ ∀ ys : List PySem.Str, ys.Nodup → (∀ x, x ∈ ys ↔ x ∈ xs) → M (.int ys.length)
  | _ => False
theorem ve_lenSetS {t : DE} {p1 p2 p3 p4 : Pos} (hc : X.calm = true) (hg1 : Gl X "len") (hg2 : Gl X "set") (m1 : X.mg "len" = none) (m2 : X.mg "set" = none) (he : VC X e t)
    (h1 : starEach (e :: []) X.env = (false, eval e X.env) :: starEach [] X.env := by rfl) : VE X (.Call (.Name "len" p1) [.Call (.Name "set" p2) [e] [] p3] [] p4) (vLenSetS t) :=
  pe_imp (pe_lenSet hc hg1 hg2 m1 m2 he h1) fun σ H Q ⟨f, O, ρ, M, r, q, k⟩ => ⟨f, O, ρ, _, r, q, fun d v H1 m n p => by
    cases d with
    | lst ds =>
      obtain ⟨xs, ex, few, m⟩ := m
      have := strsOf_eq ex
      subst this
      obtain ⟨a, vs, e1, e2, e3⟩ := p.lst
      have := rp_strs_inv e3
      subst this
      exact ⟨a, xs, e1, e2, few, fun H' ys sm nd mm => k _ _ H' (m ys nd mm) (n.trans (.same (r.nxt n).ctx sm)) (.int _)⟩
    | _ => exact m.elim⟩
end
end VL
/-! x, y, z = e1, e2, e3 of plain local names. -/
namespace VL
open PySem PySem.Spec PyProof.Rows L2 RX
section
variable {X : Cx} {fr : Bool} {a b c : Expr} {pos : Pos}
def dPar3 (i j l : Nat) (t : DL) : DS := fun D ρ => t ρ fun ds => match ds with
  | [d1, d2, d3] => D.nx (((ρ.set i (some (.d d1))).set j (some (.d d2))).set l (some (.d d3)))
  | _ => False
theorem vs_par3 {i j l : Nat} {x y z : PySem.Str} {t : DL} {px py pz pt : Pos} {kt k2' pt2} (ha : VLs X [a, b, c] t) (hc : X.calm = true) (hN : X.N.Nodup) (hi : X.N[i]? = some x) (hj : X.N[j]? = some y) (hl : X.N[l]? = some z) (hij : i ≠ j) (hil : i ≠ l) (hjl : j ≠ l)
    (hx : X.env.scope.names.lookup x = some .local) (hy : X.env.scope.names.lookup y = some .local) (hz : X.env.scope.names.lookup z = some .local)
    (hw : swappedStores [.Tuple [.Name x px, .Name y py, .Name z pz] kt pt] (.Tuple [a, b, c] k2' pt2) X.env = pure (some [x, y, z]))
    (hs : swapsWithSole [.Tuple [.Name x px, .Name y py, .Name z pz] kt pt] (.Tuple [a, b, c] k2' pt2) pos.line X.env = pure false := by rfl) :
    VS fr X (.Assign [.Tuple [.Name x px, .Name y py, .Name z pz] kt pt] (.Tuple [a, b, c] k2' pt2) pos) (dPar3 i j l t) :=
  ps_imp (ps_par3 hc hN hi hj hl hij hil hjl hx hy hz ha hw hs) fun E σ H ⟨f, O, ρ, D, r, q, k⟩ => ⟨f, O, ρ, _, r, q, fun ds vs H1 m n p => by
    match ds, m, p with
    | [d1, d2, d3], m, p =>
      cases p with
      | cons p1 p => cases p with
        | cons p2 p => cases p with
          | cons p3 p =>
            cases p
            exact ⟨_, _, _, rfl, k.nx _ _ _ _ m ((((r.nxt n).setD p1).setD p2).setD p3) (n.kep r.ctx)⟩⟩
end
end VL
/-! _law_is_cut_right. -/
namespace VL
open PySem PySem.Spec PyProof.Rows L2 TL RX
open _root_.DK (Fl fsD Tm tmS_of num numsF numW numP ShP getF dropF putF Ord mem_get get_mem get_none get_put put_nd put_len behind)
theorem era_perm {c : PySem.Str} : ∀ {L : List PySem.Str}, c ∈ L → L.Perm (c :: eraS c L)
  | [], h => nomatch h
  | z :: zs, h => by
    unfold eraS
    by_cases e : z = c
    · rw [if_pos e, e]
    · rw [if_neg e]
      exact ((era_perm ((List.mem_cons.mp h).resolve_left fun x => e x.symm)).cons z).trans (List.Perm.swap _ _ _)
def rem1 (L : List PySem.Str) (c : PySem.Str) : List PySem.Str := if c ∈ L then eraS c L else L
def remS (L os : List PySem.Str) : List PySem.Str := os.foldl rem1 L
theorem rem_snoc (L os : List PySem.Str) (c : PySem.Str) : remS L (os ++ [c]) = rem1 (remS L os) c := by unfold remS; rw [List.foldl_append]; rfl
theorem rem_perm : ∀ {os L R : List PySem.Str}, L.Perm (os ++ R) → (remS L os).Perm R
  | [], L, R, h => h
  | c :: os, L, R, h => by
    have hc : c ∈ L := h.mem_iff.mpr List.mem_cons_self
    show (remS (rem1 L c) os).Perm R
    unfold rem1
    rw [if_pos hc]
    exact rem_perm (((era_perm hc).symm.trans h).cons_inv)
theorem rem1_len (L : List PySem.Str) (c : PySem.Str) : (rem1 L c).length ≤ L.length := by
  unfold rem1
  split
  · exact era_len c L
  · exact Nat.le_refl _
theorem rem_len : ∀ (os L : List PySem.Str), (remS L os).length ≤ L.length
  | [], L => Nat.le_refl _
  | c :: os, L => Nat.le_trans (rem_len os (rem1 L c)) (rem1_len L c)
theorem rem1_sub (L : List PySem.Str) (c : PySem.Str) {x : PySem.Str} (h : x ∈ rem1 L c) : x ∈ L := by
  unfold rem1 at h
  split at h
  · next hc => exact (era_perm hc).mem_iff.mpr (List.mem_cons_of_mem _ h)
  · exact h
theorem rem_sub : ∀ (os L : List PySem.Str) {x : PySem.Str}, x ∈ remS L os → x ∈ L
  | [], L, x, h => h
  | c :: os, L, x, h => rem1_sub L c (rem_sub os (rem1 L c) h)
/-- what may be behind a cut -/
structure CutR (F G : Fl) (cs : List PySem.Str) : Prop where
  new : ∀ x ∈ G.map (·.1), x ∉ F.map (·.1) → x ≠ NEW → (∃ n : Nat, n ≤ 300 ∧ x = sh n) ∧ ∃ c ∈ cs, getF G x = some c
  same : ∀ x ∈ F.map (·.1), x ≠ NEW → getF G x = getF F x
  dif : ∀ m n : Nat, m ≤ 300 → n ≤ 300 → sh m ∈ G.map (·.1) → sh n ∈ G.map (·.1) → sh m ∉ F.map (·.1) → sh n ∉ F.map (·.1) → getF G (sh m) = getF G (sh n) → m = n
def ctS (F : Fl) (n : Nat) : PySem.Str := (getF F (sh n)).getD ""
theorem sh_nn : ∀ n < 301, sh n ≠ NEW := by decide +kernel
theorem cut_rest {F G : Fl} {cs : List PySem.Str} (h : CutR F G cs) {ns ms : List Nat} (hn : NS F ns) (hm : NS G ms) :
    (remS (ms.map (ctS G)) (ns.map (ctS F))).Nodup ∧ ∀ c ∈ remS (ms.map (ctS G)) (ns.map (ctS F)), c ∈ cs := by
  have dn : ns.Nodup := hn.asc.imp Nat.ne_of_lt
  have dm : ms.Nodup := hm.asc.imp Nat.ne_of_lt
  have sub : ∀ n ∈ ns, n ∈ ms ∧ ctS G n = ctS F n := fun n z => by
    obtain ⟨h3, hk⟩ := (hn.mem n).mp z
    have e := h.same _ hk (sh_nn n (by omega))
    refine ⟨(hm.mem n).mpr ⟨h3, ?_⟩, by unfold ctS; rw [e]⟩
    obtain ⟨c, hc⟩ := mem_keys hk
    by_cases z : sh n ∈ G.map (·.1)
    · exact z
    · rw [get_none.mpr z, hc] at e; cases e
  have pm : ms.Perm (ns ++ ms.filter fun n => decide (n ∉ ns)) := by
    refine (List.perm_ext_iff_of_nodup dm (List.nodup_append.mpr ⟨dn, dm.filter _, fun a ha b hb e => ?_⟩)).mpr fun a => ?_
    · have := (List.mem_filter.mp hb).2
      rw [← e] at this
      exact of_decide_eq_true this ha
    · rw [List.mem_append, List.mem_filter]
      constructor
      · intro ha
        by_cases z : a ∈ ns
        · exact .inl z
        · exact .inr ⟨ha, decide_eq_true z⟩
      · rintro (z | z)
        · exact (sub a z).1
        · exact z.1
  have p2 : (remS (ms.map (ctS G)) (ns.map (ctS F))).Perm ((ms.filter fun n => decide (n ∉ ns)).map (ctS G)) := by
    refine rem_perm ?_
    have := pm.map (ctS G)
    rw [List.map_append, show ns.map (ctS G) = ns.map (ctS F) from List.map_congr_left fun n z => (sub n z).2] at this
    exact this
  have fr : ∀ n ∈ ms.filter (fun n => decide (n ∉ ns)), n ≤ 300 ∧ sh n ∈ G.map (·.1) ∧ sh n ∉ F.map (·.1) := fun n z => by
    obtain ⟨z1, z2⟩ := List.mem_filter.mp z
    obtain ⟨h3, hk⟩ := (hm.mem n).mp z1
    exact ⟨h3, hk, fun y => of_decide_eq_true z2 ((hn.mem n).mpr ⟨h3, y⟩)⟩
  refine ⟨p2.nodup_iff.mpr ?_, fun c hc => ?_⟩
  · refine List.pairwise_map.mpr ((dm.filter _).imp_of_mem fun {a b} ha hb ne e => ne ?_)
    obtain ⟨a1, a2, a3⟩ := fr a ha
    obtain ⟨b1, b2, b3⟩ := fr b hb
    refine h.dif a b a1 b1 a2 b2 a3 b3 ?_
    obtain ⟨x, hx⟩ := mem_keys a2
    obtain ⟨y, hy⟩ := mem_keys b2
    unfold ctS at e
    rw [hx, hy] at e ⊢
    exact congrArg some e
  · obtain ⟨n, hn', rfl⟩ := List.mem_map.mp (p2.mem_iff.mp hc)
    obtain ⟨a1, a2, a3⟩ := fr n hn'
    obtain ⟨_, c, hc, e⟩ := h.new _ a2 a3 (sh_nn n (by omega))
    unfold ctS
    rw [e]; exact hc
end VL
/-! What stands in the list of all cuts. -/
namespace VL
open PySem PySem.Spec PyProof.Rows L2 TL RX
open _root_.DK (Fl fsD Tm tmS_of num numsF numW numP ShP getF dropF putF Ord mem_get get_mem get_none get_put put_nd put_len behind)
theorem begun_mem {B : Fl} {e : Deed} {d : Dt} (h : d ∈ begunF B e) : ∃ x c i, e = .put x c ∧ i < c.length ∧ d = fsD (putF B x (cutS c none (some ((i : Nat) : Int)))) := by
  cases e with
  | put x c =>
    obtain ⟨i, hi, rfl⟩ := List.mem_map.mp h
    exact ⟨x, c, i, rfl, List.mem_range.mp hi, rfl⟩
  | drop x => cases h
  | move x y => cases h
/-- each is what is behind some of the deeds, or what a put behind some of them has begun -/
theorem cut_mem {F : Fl} {ds : List Deed} {L : List Dt} (h : CutP F ds L) : ∀ d ∈ L, ∃ k, k < ds.length ∧ ((∃ G, Ord (aft F (ds.take k)) G ∧ d = fsD G) ∨
    ∃ x c i B, ds[k]? = some (.put x c) ∧ Ord (putF (aft F (ds.take k)) x "") B ∧ i < c.length ∧ d = fsD (putF B x (cutS c none (some ((i : Nat) : Int))))) := by
  induction h with
  | nil => intro d hd; cases hd
  | @snoc ds L G B e h g b ih =>
    intro d hd
    have tk : ∀ k, k ≤ ds.length → (ds ++ [e]).take k = ds.take k := fun k hk => by rw [List.take_append_of_le_length hk]
    rw [List.length_append, List.length_singleton]
    rcases List.mem_append.mp hd with hd | hd
    · rcases List.mem_append.mp hd with hd | hd
      · obtain ⟨k, hk, r⟩ := ih d hd
        refine ⟨k, by omega, ?_⟩
        rw [tk k (by omega), List.getElem?_append_left hk]
        exact r
      · refine ⟨ds.length, by omega, .inl ⟨G, ?_, List.mem_singleton.mp hd⟩⟩
        rw [tk _ (Nat.le_refl _), List.take_length]
        exact g
    · obtain ⟨x, c, i, rfl, hi, e⟩ := begun_mem hd
      refine ⟨ds.length, by omega, .inr ⟨x, c, i, B, ?_, ?_, hi, e⟩⟩
      · rw [List.getElem?_append_right (Nat.le_refl _), Nat.sub_self]; rfl
      · rw [tk _ (Nat.le_refl _), List.take_length]
        exact b x c rfl
end VL
/-! What deeds do at a path; mendings that are cut: purely. -/
namespace VL
open PySem PySem.Spec PyProof.Rows L2 TL RX
open _root_.DK (Fl fsD getF putF dropF Ord get_mem get_none mem_get get_perm get_put get_drop perm_get put_nd TrP treeF behind begins Lg wordsD logD logT headT rowsT readR readG readD Tm Nz Sl Bk Nl isNm isPath isShelf ShP numP stepB lockB allD num)
def eff1 : Deed → PySem.Str → Option (Option PySem.Str)
  | .put y c, x => if x = y then some (some c) else none
  | .drop y, x => if x = y then some none else none
  | .move _ _, _ => none
def eff : List Deed → PySem.Str → Option (Option PySem.Str)
  | [], _ => none
  | d :: D, x => (eff D x).or (eff1 d x)
def isPD : Deed → Bool
  | .move _ _ => false
  | _ => true
def at1 : Deed → PySem.Str
  | .put y _ => y
  | .drop y => y
  | .move y _ => y
theorem get_aft1 {F : Fl} {d : Deed} (h : isPD d = true) (x : PySem.Str) : getF (aft1 F d) x = (eff1 d x).getD (getF F x) := by
  cases d with
  | put y c =>
    show getF (putF F y c) x = (if x = y then some (some c) else none).getD _
    rw [get_put]
    split <;> rfl
  | drop y =>
    show getF (dropF F y) x = (if x = y then some none else none).getD _
    rw [get_drop]
    split <;> rfl
  | move y z => cases h
theorem get_aft {D : List Deed} (h : ∀ d ∈ D, isPD d = true) : ∀ {F : Fl} (x : PySem.Str), getF (aft F D) x = (eff D x).getD (getF F x) := by
  induction D with
  | nil => intro F x; rfl
  | cons d D ih =>
    intro F x
    show getF (aft (aft1 F d) D) x = ((eff D x).or (eff1 d x)).getD _
    rw [ih (fun e he => h e (List.mem_cons_of_mem _ he)), get_aft1 (h d List.mem_cons_self)]
    cases eff D x <;> rfl
theorem eff_app (A B : List Deed) (x : PySem.Str) : eff (A ++ B) x = (eff B x).or (eff A x) := by
  induction A with
  | nil => show eff B x = _; cases eff B x <;> rfl
  | cons d A ih =>
    show (eff (A ++ B) x).or (eff1 d x) = (eff B x).or ((eff A x).or (eff1 d x))
    rw [ih]
    cases eff B x <;> rfl
theorem eff1_no {d : Deed} {x : PySem.Str} (h : x ≠ at1 d) : eff1 d x = none := by
  cases d with
  | put y c => exact if_neg h
  | drop y => exact if_neg h
  | move y z => rfl
theorem eff_no {D : List Deed} {x : PySem.Str} (h : ∀ d ∈ D, x ≠ at1 d) : eff D x = none := by
  induction D with
  | nil => rfl
  | cons d D ih =>
    show (eff D x).or (eff1 d x) = none
    rw [ih fun e he => h e (List.mem_cons_of_mem _ he), eff1_no (h d List.mem_cons_self)]
    rfl
theorem eff1_yes {d : Deed} (h : isPD d = true) : ∃ o, eff1 d (at1 d) = some o := by
  cases d with
  | put y c => exact ⟨_, if_pos rfl⟩
  | drop y => exact ⟨_, if_pos rfl⟩
  | move y z => cases h
theorem eff_yes {D : List Deed} (h : ∀ d ∈ D, isPD d = true) {d : Deed} (hd : d ∈ D) : ∃ o, eff D (at1 d) = some o := by
  induction D with
  | nil => cases hd
  | cons e D ih =>
    show ∃ o, (eff D (at1 d)).or (eff1 e (at1 d)) = some o
    rcases List.mem_cons.mp hd with z | z
    · subst z
      obtain ⟨o, ho⟩ := eff1_yes (h d List.mem_cons_self)
      cases z : eff D (at1 d) with
      | some o2 => exact ⟨o2, rfl⟩
      | none => exact ⟨o, by rw [ho]; rfl⟩
    · obtain ⟨o, ho⟩ := ih (fun e he => h e (List.mem_cons_of_mem _ he)) z
      exact ⟨o, by rw [ho]; rfl⟩
/-- files with the same content at each path -/
def Sm2 (F G : Fl) : Prop := ∀ x, getF F x = getF G x
/-- what a cut of putting and dropping leaves: k deeds are done, the next one may have begun -/
structure CutB (F : Fl) (D : List Deed) (k : Nat) (B : Fl) : Prop where
  kl : k ≤ D.length
  nd : (B.map (·.1)).Nodup
  same : ∀ x, (∀ y c, D[k]? = some (.put y c) → x ≠ y) → getF B x = getF (aft F (D.take k)) x
  len : B.length ≤ F.length + D.length + 1
theorem cutB_of {F : Fl} {D : List Deed} {L : List Dt} {G : Fl} (nd : (F.map (·.1)).Nodup) (h : CutP F D L) (o : Ord (aft F D) G) : ∀ d ∈ L ++ [fsD G], ∃ B k, d = fsD B ∧ CutB F D k B := by
  intro d hd
  have ndk : ∀ k, ((aft F (D.take k)).map (·.1)).Nodup := fun k => aft_nd nd _
  have lk : ∀ k, (aft F (D.take k)).length ≤ F.length + D.length := fun k => by have := aft_len F (D.take k); rw [List.length_take] at this; omega
  rcases List.mem_append.mp hd with z | z
  · obtain ⟨k, hk, r⟩ := cut_mem h d z
    rcases r with ⟨G, o, rfl⟩ | ⟨x, c, i, B, e, o, hi, rfl⟩
    · have ng : (G.map (·.1)).Nodup := (o.p.map _).nodup_iff.mpr (ndk k)
      exact ⟨G, k, rfl, ⟨by omega, ng, fun x _ => get_perm ng o.p x, by rw [o.p.length_eq]; have := lk k; omega⟩⟩
    · have nb : (B.map (·.1)).Nodup := (o.p.map _).nodup_iff.mpr (put_nd (ndk k) _ _)
      refine ⟨_, k, rfl, ⟨by omega, put_nd nb _ _, fun y hy => ?_, ?_⟩⟩
      · have ne := hy x c e
        rw [get_put, if_neg ne, get_perm nb o.p, get_put, if_neg ne]
      · have l1 := _root_.DK.put_len (aft F (D.take k)) x ""
        have lb : B.length ≤ F.length + D.length + 1 := by rw [o.p.length_eq]; have := lk k; omega
        have nb : x ∈ B.map (·.1) := by
          have : getF B x = some ("" : PySem.Str) := by rw [get_perm nb o.p, get_put, if_pos rfl]
          exact Classical.byContradiction fun z => by rw [get_none.mpr z] at this; cases this
        have e1 := congrArg List.length (_root_.DK.put_keys B x (cutS c none (some ((i : Nat) : Int))))
        obtain ⟨y, hy⟩ := mem_keys nb
        rw [if_pos (by rw [hy]; rfl), List.length_map, List.length_map] at e1
        omega
  · have ng : (G.map (·.1)).Nodup := (o.p.map _).nodup_iff.mpr (aft_nd nd _)
    refine ⟨G, D.length, List.mem_singleton.mp z, ⟨Nat.le_refl _, ng, fun x _ => ?_, ?_⟩⟩
    · rw [List.take_length]; exact get_perm ng o.p x
    · rw [o.p.length_eq]; have := aft_len F D; omega
/-! ### trees -/
theorem tree_beg (y : PySem.Str) : begins TrP ("tree/" ++ y) = true ∧ behind TrP ("tree/" ++ y) = y := by
  have e : tl ("tree/" ++ y : PySem.Str) = tl TrP ++ tl y := tl_append _ _
  have l5 : TrP.length = (tl TrP).length := len_tl _
  refine ⟨?_, ?_⟩
  · unfold begins
    rw [e, l5, List.take_left]
    exact decide_eq_true rfl
  · refine ext_tl ?_
    rw [_root_.DK.tl_behind, e, l5, List.drop_left]
theorem tree_get (F : Fl) (y : PySem.Str) : getF (treeF F) y = getF F ("tree/" ++ y) := by
  induction F with
  | nil => rfl
  | cons p F ih =>
    by_cases b : begins TrP p.1 = true
    · have e : treeF (p :: F) = (behind TrP p.1, p.2) :: treeF F := by
        unfold treeF
        rw [List.filter_cons_of_pos (p := fun p : PySem.Str × PySem.Str => begins TrP p.1) b]; rfl
      have pe := _root_.DK.begins_eq b
      rw [e]
      by_cases z : behind TrP p.1 = y
      · rw [_root_.DK.get_pos z, _root_.DK.get_pos (by rw [pe, z]; rfl)]
      · rw [_root_.DK.get_neg z, ih, _root_.DK.get_neg (fun w => z ?_)]
        rw [w]; exact (tree_beg y).2
    · have e : treeF (p :: F) = treeF F := by
        unfold treeF
        rw [List.filter_cons_of_neg (p := fun p : PySem.Str × PySem.Str => begins TrP p.1) b]
      rw [e, ih, _root_.DK.get_neg (fun w => b (by rw [w]; exact (tree_beg y).1))]
theorem tree_same {F G : Fl} (nf : (F.map (·.1)).Nodup) (ng : (G.map (·.1)).Nodup) (h : ∀ y, getF F ("tree/" ++ y) = getF G ("tree/" ++ y)) : (treeF F).Perm (treeF G) :=
  perm_get (_root_.DK.tree_nd nf) (_root_.DK.tree_nd ng) fun y => by rw [tree_get, tree_get, h]
/-! ### mendings -/
theorem sdeed_at {F : Fl} {ws : List PySem.Str} (h : stepB ws = true) : isPD (sdeed F ws) = true ∧ ∃ y, at1 (sdeed F ws) = "tree/" ++ y ∧ isPath y = true := by
  rcases _root_.DK.step_cases h with ⟨y, rfl, hy⟩ | ⟨y, s, rfl, hy, hs⟩
  · exact ⟨rfl, y, rfl, hy⟩
  · exact ⟨rfl, y, rfl, hy⟩
/-- a path of the tree, or the lock -/
def WP (x : PySem.Str) : Prop := (∃ y, x = "tree/" ++ y) ∨ x = "lock"
theorem ldeeds_pd {F : Fl} {g : Lg} (h : ∀ ws ∈ g.1, stepB ws = true) : ∀ d ∈ ldeeds F g, isPD d = true ∧ (WP (at1 d) ∨ at1 d = "log") := by
  intro d hd
  unfold ldeeds at hd
  rcases List.mem_append.mp hd with z | z
  · obtain ⟨ws, hw, rfl⟩ := List.mem_map.mp z
    obtain ⟨a, y, b, _⟩ := sdeed_at (F := F) (h ws hw)
    exact ⟨a, .inl (.inl ⟨y, b⟩)⟩
  · simp only [List.mem_cons, List.not_mem_nil, or_false] at z
    rcases z with rfl | rfl
    · exact ⟨rfl, .inl (.inr rfl)⟩
    · exact ⟨rfl, .inr rfl⟩
theorem dropIf_pd {F : Fl} {x : PySem.Str} : ∀ d ∈ dropIf F x, isPD d = true ∧ at1 d = x := by
  intro d hd
  unfold dropIf at hd
  split at hd
  · rw [List.mem_singleton.mp hd]; exact ⟨rfl, rfl⟩
  · cases hd
theorem tr_ne {x : PySem.Str} (y : PySem.Str) (h : begins TrP x = false) : x ≠ "tree/" ++ y := fun e => by
  rw [e, (tree_beg y).1] at h; cases h
theorem log_wp : ¬ WP "log" := fun h => h.elim (fun ⟨y, e⟩ => tr_ne y (by decide +kernel) e) (by decide +kernel)
theorem lgn_wp : ¬ WP "log-new" := fun h => h.elim (fun ⟨y, e⟩ => tr_ne y (by decide +kernel) e) (by decide +kernel)
theorem shelf_tree {s : PySem.Str} (h : isShelf s = true) : begins ShP s = true := by
  unfold isShelf numP at h
  by_cases c : begins ShP s = true ∧ allD (behind ShP s) = true ∧ (behind ShP s).length ≤ 19 ∧ _root_.DK.good (behind ShP s) = true
  · exact c.1
  · rw [if_neg c] at h; cases h
theorem shelf_no {s : PySem.Str} (h : isShelf s = true) : ¬ WP s ∧ s ≠ "log" ∧ s ≠ "log-new" := by
  have b := shelf_tree h
  refine ⟨fun w => ?_, fun e => ?_, fun e => ?_⟩
  · rcases w with ⟨y, e⟩ | e
    · have e1 := _root_.DK.beg_tl b
      have e2 : tl s = tl "tree/" ++ tl y := by rw [e]; exact tl_append _ _
      rw [e1] at e2
      have h1 := congrArg (fun l => l.head?) e2
      have : (tl ShP ++ tl (behind ShP s)).head? = some 115 := by
        have : tl ShP = 115 :: (tl ShP).tail := by decide +kernel
        rw [this]; rfl
      have k2 : (tl "tree/" ++ tl y).head? = some 116 := by
        have : tl "tree/" = 116 :: (tl "tree/").tail := by decide +kernel
        rw [this]; rfl
      simp only [this, k2] at h1
      exact absurd h1 (by decide)
    · rw [e] at b; exact absurd b (by decide +kernel)
  · rw [e] at b; exact absurd b (by decide +kernel)
  · rw [e] at b; exact absurd b (by decide +kernel)
theorem shG_shelf {n k : Nat} {g : Lg} (h : GV n k g) {s : PySem.Str} (hs : s ∈ shG g) : isShelf s = true := by
  unfold shG at hs
  rcases List.mem_append.mp hs with z | z
  · obtain ⟨a, y, m⟩ := shOf_of z
    rcases _root_.DK.step_cases (h.st _ m) with ⟨y', e, _⟩ | ⟨y', s', e, _, hs'⟩
    · exact absurd (congrArg List.length e) (by simp)
    · injection e with _ e; injection e with _ e; injection e with e _
      rw [e]; exact hs'
  · rw [List.mem_singleton.mp z]; exact h.sh
theorem ldeeds_same {B F : Fl} {n k : Nat} {g : Lg} (h : GV n k g) (e : ∀ s ∈ shG g, getF B s = getF F s) : ldeeds B g = ldeeds F g := by
  unfold ldeeds
  rw [e g.2 (List.mem_append_right _ (List.mem_singleton.mpr rfl))]
  congr 1
  refine List.map_congr_left fun ws hw => ?_
  rcases _root_.DK.step_cases (h.st ws hw) with ⟨y, rfl, hy⟩ | ⟨y, s, rfl, hy, hs⟩
  · rfl
  · show Deed.put _ ((getF B s).getD "") = Deed.put _ ((getF F s).getD "")
    rw [e s (List.mem_append_left _ (shOf_mem hw))]
theorem key_get {B F : Fl} {x : PySem.Str} (e : getF B x = getF F x) : x ∈ B.map (·.1) ↔ x ∈ F.map (·.1) := by rw [key_iff, key_iff, e]
theorem dropIf_same {B F : Fl} {x : PySem.Str} (e : getF B x = getF F x) : dropIf B x = dropIf F x := by
  unfold dropIf
  by_cases z : x ∈ F.map (·.1)
  · rw [if_pos z, if_pos ((key_get e).mpr z)]
  · rw [if_neg z, if_neg (fun w => z ((key_get e).mp w))]
/-- files with a log that is to be done -/
structure Todo (F : Fl) (g : Lg) (n k : Nat) : Prop where
  lg : logG F = some g
  gv : GV n k g
  on : ∀ s ∈ shG g, s ∈ F.map (·.1)
section
variable {F B : Fl} {g : Lg} {n m : Nat}
theorem Todo.eq (h : Todo F g n m) : mendD F = ldeeds F g ++ dropIf F "log-new" := by
  unfold mendD mendL
  rw [h.lg]
  show (if ∀ s ∈ shG g, s ∈ F.map (·.1) then ldeeds F g else dropIf F "log") ++ _ = _
  rw [if_pos h.on]
theorem Todo.pd (h : Todo F g n m) : ∀ d ∈ mendD F, isPD d = true ∧ (WP (at1 d) ∨ at1 d = "log" ∨ at1 d = "log-new") := by
  rw [h.eq]
  intro d hd
  rcases List.mem_append.mp hd with z | z
  · obtain ⟨a, b⟩ := ldeeds_pd h.gv.st d z
    exact ⟨a, b.imp_right .inl⟩
  · obtain ⟨a, b⟩ := dropIf_pd d z
    exact ⟨a, .inr (.inr b)⟩
theorem Todo.len (h : Todo F g n m) : (mendD F).length ≤ g.1.length + 3 := by
  rw [h.eq, List.length_append]
  have := dropIf_len F "log-new"
  unfold ldeeds
  rw [List.length_append, List.length_map]
  show _ + 2 + _ ≤ _
  omega
/-- the log is there, and what it names: it is done again -/
theorem Todo.again (h : Todo F g n m) (l : getF B "log" = getF F "log") (ln : getF B "log-new" = getF F "log-new") (s : ∀ s ∈ shG g, getF B s = getF F s) : Todo B g n m ∧ mendD B = mendD F := by
  have t : Todo B g n m := ⟨by have := h.lg; unfold logG at this ⊢; rw [l]; exact this, h.gv, fun x hx => (key_get (s x hx)).mpr (h.on x hx)⟩
  exact ⟨t, by rw [t.eq, h.eq, ldeeds_same h.gv s, dropIf_same ln]⟩
theorem none_mend (l : getF B "log" = none) : mendD B = dropIf B "log-new" := by
  unfold mendD mendL logG
  rw [l]
  show dropIf B "log" ++ _ = _
  unfold dropIf
  rw [if_neg (get_none.mp l)]; rfl
/-- what a cut of a mending leaves, and what mending it leaves -/
theorem Todo.cut (h : Todo F g n m) {k : Nat} (c : CutB F (mendD F) k B) :
    Sm2 (aft B (mendD B)) (aft F (mendD F)) ∧ (∀ x, ¬ WP x → x ≠ "log" → x ≠ "log-new" → getF B x = getF F x) ∧ (mendD B).length ≤ g.1.length + 3 ∧ (∀ c, getF B "log" = some c → getF F "log" = some c) := by
  have pd := fun d hd => (h.pd d hd).1
  have pdk : ∀ d ∈ (mendD F).take k, isPD d = true := fun d hd => pd d (List.mem_of_mem_take hd)
  have ne_of : ∀ x, (∀ d ∈ mendD F, x ≠ at1 d) → getF B x = getF F x := fun x hx => by
    rw [c.same x fun y cc e z => hx _ (List.mem_of_getElem? e) z, get_aft pdk, eff_no fun d hd => hx d (List.mem_of_mem_take hd)]
    rfl
  have out : ∀ x, ¬ WP x → x ≠ "log" → x ≠ "log-new" → getF B x = getF F x := fun x h1 h2 h3 => ne_of x fun d hd z => by
    rcases (h.pd d hd).2 with w | w | w
    · exact h1 (z ▸ w)
    · exact h2 (z.trans w)
    · exact h3 (z.trans w)
  have shs : ∀ s ∈ shG g, getF B s = getF F s := fun s hs => by
    obtain ⟨a, b, c⟩ := shelf_no (shG_shelf h.gv hs)
    exact out s a b c
  have len1 : ldeeds F g = (g.1.map (sdeed F) ++ [Deed.put "lock" ((getF F g.2).getD "")]) ++ [.drop "log"] := by unfold ldeeds; rw [List.append_assoc]; rfl
  have lenS : (g.1.map (sdeed F) ++ [Deed.put "lock" ((getF F g.2).getD "")]).length = g.1.length + 1 := by rw [List.length_append, List.length_map]; rfl
  have wpS : ∀ d ∈ g.1.map (sdeed F) ++ [Deed.put "lock" ((getF F g.2).getD "")], WP (at1 d) := fun d hd => by
    rcases List.mem_append.mp hd with z | z
    · obtain ⟨ws, hw, rfl⟩ := List.mem_map.mp z
      obtain ⟨a, y, b, _⟩ := sdeed_at (F := F) (h.gv.st ws hw)
      exact .inl ⟨y, b⟩
    · rw [List.mem_singleton.mp z]; exact .inr rfl
  have eqD : mendD F = (g.1.map (sdeed F) ++ [Deed.put "lock" ((getF F g.2).getD "")]) ++ ([.drop "log"] ++ dropIf F "log-new") := by rw [h.eq, len1, List.append_assoc]
  by_cases hk : k ≤ g.1.length + 1
  · -- before the log goes
    have wp : ∀ d ∈ (mendD F).take k, WP (at1 d) := fun d hd => by
      rw [eqD, List.take_append_of_le_length (by rw [lenS]; exact hk)] at hd
      exact wpS d (List.mem_of_mem_take hd)
    have nx : ∀ y cc, (mendD F)[k]? = some (Deed.put y cc) → WP y := fun y cc e => by
      rw [eqD] at e
      by_cases z : k < g.1.length + 1
      · rw [List.getElem?_append_left (by rw [lenS]; exact z)] at e
        exact wpS _ (List.mem_of_getElem? e)
      · rw [List.getElem?_append_right (by rw [lenS]; omega)] at e
        have := List.mem_of_getElem? e
        rcases List.mem_append.mp this with w | w
        · cases List.mem_singleton.mp w
        · unfold dropIf at w
          split at w
          · cases List.mem_singleton.mp w
          · cases w
    have nwp : ∀ x, ¬ WP x → getF B x = getF F x := fun x hx => by
      have e0 : eff ((mendD F).take k) x = none := eff_no fun d hd z => hx (by rw [z]; exact wp d hd)
      rw [c.same x fun y cc e z => hx (by rw [z]; exact nx y cc e), get_aft pdk, e0]
      rfl
    obtain ⟨t, e⟩ := h.again (nwp _ log_wp) (nwp _ lgn_wp) shs
    refine ⟨fun x => ?_, out, by rw [e]; exact h.len, fun c hc => by rw [← nwp _ log_wp]; exact hc⟩
    rw [e, get_aft pd, get_aft pd]
    cases z : eff (mendD F) x with
    | some o => rfl
    | none =>
      refine ne_of x fun d hd w => ?_
      obtain ⟨o, ho⟩ := eff_yes pd hd
      rw [← w, z] at ho; cases ho
  · -- the log is gone
    have tk : (mendD F).take k = (g.1.map (sdeed F) ++ [Deed.put "lock" ((getF F g.2).getD "")]) ++ [.drop "log"] ++ (dropIf F "log-new").take (k - (g.1.length + 2)) := by
      rw [eqD, ← List.append_assoc, List.take_append, List.length_append, lenS]
      congr 1
      exact List.take_of_length_le (by rw [List.length_append, lenS]; show _ + 1 ≤ _; omega)
    have np : ∀ y cc, (mendD F)[k]? ≠ some (Deed.put y cc) := fun y cc e => by
      rw [eqD, ← List.append_assoc, List.getElem?_append_right (by rw [List.length_append, lenS]; show _ + 1 ≤ _; omega)] at e
      have w := List.mem_of_getElem? e
      unfold dropIf at w
      split at w
      · cases List.mem_singleton.mp w
      · cases w
    have all : ∀ x, getF B x = getF (aft F ((mendD F).take k)) x := fun x => c.same x fun y cc e => absurd e (np y cc)
    have effD : ∀ x : PySem.Str, x ≠ "log-new" → eff ((mendD F).take k) x = eff (mendD F) x := fun x hx => by
      have e1 : eff ((dropIf F "log-new").take (k - (g.1.length + 2))) x = none := eff_no fun d hd => by rw [(dropIf_pd d (List.mem_of_mem_take hd)).2]; exact hx
      have e2 : eff (dropIf F "log-new") x = none := eff_no fun d hd => by rw [(dropIf_pd d hd).2]; exact hx
      rw [tk, eqD, eff_app, ← List.append_assoc, eff_app _ (dropIf F "log-new"), e1, e2]
    have elog : eff (mendD F) "log" = some none := by
      rw [eqD, eff_app, eff_app [.drop "log"], eff_no (D := dropIf F "log-new") fun d hd => by rw [(dropIf_pd d hd).2]; decide +kernel]
      rfl
    have bl : getF B "log" = none := by
      rw [all, get_aft pdk, effD _ (by decide +kernel), elog]; rfl
    have eM := none_mend bl
    have dl := dropIf_len B "log-new"
    refine ⟨fun x => ?_, out, by rw [eM]; omega, fun c hc => by rw [bl] at hc; cases hc⟩
    rw [eM, get_aft (fun d hd => (dropIf_pd d hd).1), get_aft pd]
    by_cases hx : x = ("log-new" : PySem.Str)
    · subst hx
      have e1 : eff (dropIf B "log-new") "log-new" = if ("log-new" : PySem.Str) ∈ B.map (·.1) then some none else none := by
        unfold dropIf
        split
        · rfl
        · rfl
      have e2 : (eff (mendD F) "log-new").getD (getF F "log-new") = none := by
        rw [eqD, eff_app, eff_app [.drop "log"]]
        unfold dropIf
        by_cases z : ("log-new" : PySem.Str) ∈ F.map (·.1)
        · rw [if_pos z]; rfl
        · rw [if_neg z, eff_no (D := g.1.map (sdeed F) ++ [Deed.put "lock" ((getF F g.2).getD "")]) fun d hd w => lgn_wp (by rw [w]; exact wpS d hd)]
          show ((none : Option (Option PySem.Str)).or ((eff1 (.drop "log") "log-new").or none)).getD _ = none
          rw [eff1_no (by decide +kernel)]
          exact get_none.mpr z
      rw [e1, e2]
      by_cases z : ("log-new" : PySem.Str) ∈ B.map (·.1)
      · rw [if_pos z]; rfl
      · rw [if_neg z]; exact get_none.mpr z
    · rw [eff_no (D := dropIf B "log-new") fun d hd => by rw [(dropIf_pd d hd).2]; exact hx, all, get_aft pdk, effD x hx]
      rfl
/-- behind a mending nothing is to be mended -/
theorem Todo.end_ (h : Todo F g n m) {E : Fl} (s : Sm2 E (aft F (mendD F))) : mendD E = [] := by
  have pd := fun d hd => (h.pd d hd).1
  have eqD : mendD F = (g.1.map (sdeed F) ++ [Deed.put "lock" ((getF F g.2).getD "")]) ++ ([.drop "log"] ++ dropIf F "log-new") := by
    rw [h.eq]; unfold ldeeds
    rw [List.append_assoc, List.append_assoc]; rfl
  have e1 : getF E "log" = none := by
    rw [s, get_aft pd, eqD, eff_app, eff_app [.drop "log"], eff_no (D := dropIf F "log-new") fun d hd => by rw [(dropIf_pd d hd).2]; decide +kernel]
    rfl
  have e2 : getF E "log-new" = none := by
    rw [s, get_aft pd, eqD, eff_app, eff_app [.drop "log"]]
    unfold dropIf
    by_cases z : ("log-new" : PySem.Str) ∈ F.map (·.1)
    · rw [if_pos z]; rfl
    · rw [if_neg z, eff_no (D := g.1.map (sdeed F) ++ [Deed.put "lock" ((getF F g.2).getD "")]) fun d hd w => ?_]
      · show ((none : Option (Option PySem.Str)).or ((eff1 (.drop "log") "log-new").or none)).getD _ = none
        rw [eff1_no (by decide +kernel)]
        exact get_none.mpr z
      · rcases List.mem_append.mp hd with z | z
        · obtain ⟨ws, hw, rfl⟩ := List.mem_map.mp z
          obtain ⟨a, y, b, _⟩ := sdeed_at (F := F) (h.gv.st ws hw)
          exact lgn_wp (.inl ⟨y, w.trans b⟩)
        · rw [List.mem_singleton.mp z] at w; exact absurd (show ("log-new" : PySem.Str) = "lock" from w) (by decide +kernel)
  rw [none_mend e1]
  unfold dropIf
  rw [if_neg (get_none.mp e2)]
end
end VL
/-! Sizes of files behind deeds; the last tree, as the law k70 tells it. -/
namespace VL
open PySem PySem.Spec PyProof.Rows L2 TL RX
open _root_.DK (Fl fsD getF putF dropF Ord get_mem get_none mem_get get_perm get_put get_drop perm_get put_nd drop_nd TrP treeF behind begins Lg wordsD logD logT headT rowsT readR readG readD Tm tmS_of Nz Sl Bk Nl isNm isPath isShelf ShP numP stepB lockB allD num cpD W)
/-- sizes of paths and contents -/
def FT (F : Fl) : Prop := ∀ p ∈ F, Tm 510 460 p.1 ∧ Tm 500 450 p.2
def DTm : Deed → Prop
  | .put x c => Tm 510 460 x ∧ Tm 500 450 c
  | .drop x => Tm 510 460 x
  | .move x y => Tm 510 460 x ∧ Tm 510 460 y
theorem FT.put {F : Fl} (h : FT F) {x c : PySem.Str} (hx : Tm 510 460 x) (hc : Tm 500 450 c) : FT (putF F x c) := fun p hp => by
  rcases _root_.DK.put_mem hp with z | z
  · exact h p z
  · rw [z]; exact ⟨hx, hc⟩
theorem FT.drop {F : Fl} (h : FT F) (x : PySem.Str) : FT (dropF F x) := fun p hp => h p (_root_.DK.drop_mem hp)
theorem FT.aft1 {F : Fl} (h : FT F) {d : Deed} (hd : DTm d) : FT (aft1 F d) := by
  cases d with
  | put x c => exact h.put hd.1 hd.2
  | drop x => exact h.drop x
  | move x y =>
    show FT (match getF F x with | some c => putF (dropF F x) y c | none => F)
    cases e : getF F x with
    | some c => exact (h.drop x).put hd.2 (h _ (get_mem e)).2
    | none => exact h
theorem FT.aft {D : List Deed} (hd : ∀ d ∈ D, DTm d) : ∀ {F : Fl}, FT F → FT (aft F D) := by
  induction D with
  | nil => exact fun h => h
  | cons d D ih => exact fun h => ih (fun e he => hd e (List.mem_cons_of_mem _ he)) (h.aft1 (hd d List.mem_cons_self))
theorem FT.perm {F G : Fl} (h : FT F) (p : G.Perm F) : FT G := fun q hq => h q (p.mem_iff.mp hq)
theorem FsK.ft {F : Fl} (h : FsK F) : FT F := fun p hp => ⟨(h.k p hp).tm, h.c p hp⟩
theorem Tm.behind {n k : Nat} {x : PySem.Str} (h : Tm n k x) (hd : PySem.Str) : Tm n k (_root_.DK.behind hd x) := by
  have sub : (tl (_root_.DK.behind hd x)).Sublist (tl x) := by rw [_root_.DK.tl_behind]; exact List.drop_sublist _ _
  refine ⟨?_, Nat.le_trans (_root_.DK.sum_sub sub) h.dig, fun c hc => h.ok c (sub.mem hc)⟩
  have := sub.length_le
  rw [← len_tl, ← len_tl] at this
  exact Nat.le_trans this h.len
theorem FT.tree {F : Fl} (h : FT F) : FT (treeF F) := fun p hp => by
  unfold treeF at hp
  obtain ⟨q, hq, rfl⟩ := List.mem_map.mp hp
  obtain ⟨a, b⟩ := h q (List.mem_filter.mp hq).1
  exact ⟨Tm.behind a _, b⟩
theorem FT.sm {F : Fl} (h : FT F) (l : F.length ≤ 64) : Sm 1 700000 (fsD F) := (Sm.fs (fun p hp => (h p hp).1) (fun p hp => (h p hp).2) l (by decide) (by decide)).up (Nat.le_refl _) (by decide)
theorem FT.lk {F : Fl} (h : FT F) {x c : PySem.Str} (e : getF F x = some c) : Tm 500 450 c := (h _ (get_mem e)).2
theorem FT.get {F : Fl} (h : FT F) (x : PySem.Str) : Tm 500 450 ((getF F x).getD "") := by
  cases e : getF F x with
  | some c => exact h.lk e
  | none => exact tmS_of (by decide +kernel)
theorem Tm.tree {y : PySem.Str} (h : Tm 500 450 y) : Tm 510 460 ("tree/" ++ y) := ((tmS_of (n := 5) (g := 0) (x := "tree/") (by decide +kernel)).app h).up (by decide) (by decide)
theorem sdeed_tm {F : Fl} (h : FT F) {n k : Nat} (hn : n ≤ 500) (hk : k ≤ 450) {ws : List PySem.Str} (st : stepB ws = true) (w : ∀ x ∈ ws, Tm n k x) : DTm (sdeed F ws) := by
  rcases _root_.DK.step_cases st with ⟨y, rfl, hy⟩ | ⟨y, s, rfl, hy, hs⟩
  · exact Tm.tree ((w y (by simp)).up hn hk)
  · exact ⟨Tm.tree ((w y (by simp)).up hn hk), h.get s⟩
theorem ldeeds_tm {F : Fl} (h : FT F) {n k : Nat} (hn : n ≤ 500) (hk : k ≤ 450) {g : Lg} (gv : GV n k g) : ∀ d ∈ ldeeds F g, DTm d := fun d hd => by
  unfold ldeeds at hd
  rcases List.mem_append.mp hd with z | z
  · obtain ⟨ws, hw, rfl⟩ := List.mem_map.mp z
    exact sdeed_tm h hn hk (gv.st ws hw) (gv.w ws hw)
  · simp only [List.mem_cons, List.not_mem_nil, or_false] at z
    rcases z with rfl | rfl
    · exact ⟨tmS_of (by decide +kernel), h.get g.2⟩
    · exact (tmS_of (by decide +kernel) : Tm 510 460 "log")
theorem dropIf_tm {F : Fl} {x : PySem.Str} (hx : Tm 510 460 x) : ∀ d ∈ dropIf F x, DTm d := fun d hd => by
  unfold dropIf at hd
  split at hd
  · rw [List.mem_singleton.mp hd]; exact hx
  · cases hd
theorem log_tm : Tm 510 460 "log" := tmS_of (by decide +kernel)
theorem lgn_tm : Tm 510 460 "log-new" := tmS_of (by decide +kernel)
theorem mendD_tm {F : Fl} (h : FT F) : ∀ d ∈ mendD F, DTm d := fun d hd => by
  unfold mendD at hd
  rcases List.mem_append.mp hd with z | z
  · unfold mendL at z
    cases e : logG F with
    | none => rw [e] at z; exact dropIf_tm log_tm d z
    | some g =>
      rw [e] at z
      have z' : d ∈ (if ∀ s ∈ shG g, s ∈ F.map (·.1) then ldeeds F g else dropIf F "log") := z
      split at z'
      · exact ldeeds_tm h (Nat.le_refl _) (Nat.le_refl _) (logG_gv (fun c hc => h.lk hc) e).1 d z'
      · exact dropIf_tm log_tm d z'
  · exact dropIf_tm lgn_tm d z
theorem DTm.sm : ∀ {d : Deed}, DTm d → Sm 1 16000 (dD d)
  | .put x c, h => (Sm.tup (k := 0) (n := 5110) (m := 3) (fun d hd => by
      simp only [List.mem_cons, List.not_mem_nil, or_false] at hd
      rcases hd with rfl | rfl | rfl
      · exact (Sm.str (tmS_of (n := 510) (g := 460) (by decide +kernel)) (by decide))
      · exact Sm.str h.1 (by decide)
      · exact (Sm.str h.2 (by decide)).up (Nat.le_refl _) (by decide)) (Nat.le_refl _)).up (Nat.le_refl _) (by decide)
  | .drop x, h => (Sm.tup (k := 0) (n := 5110) (m := 3) (fun d hd => by
      simp only [List.mem_cons, List.not_mem_nil, or_false] at hd
      rcases hd with rfl | rfl
      · exact (Sm.str (tmS_of (n := 510) (g := 460) (by decide +kernel)) (by decide))
      · exact Sm.str h (by decide)) (by show 2 ≤ 3; decide)).up (Nat.le_refl _) (by decide)
  | .move x y, h => (Sm.tup (k := 0) (n := 5110) (m := 3) (fun d hd => by
      simp only [List.mem_cons, List.not_mem_nil, or_false] at hd
      rcases hd with rfl | rfl | rfl
      · exact (Sm.str (tmS_of (n := 510) (g := 460) (by decide +kernel)) (by decide))
      · exact Sm.str h.1 (by decide)
      · exact Sm.str h.2 (by decide)) (Nat.le_refl _)).up (Nat.le_refl _) (by decide)
theorem deeds_sm {X : List Deed} {m : Nat} (hm : X.length ≤ m) (hx : ∀ d ∈ X, DTm d) : Sm 2 (10 + m * 16000) (.lst (X.map dD)) := Sm.lst (fun d hd => by
  obtain ⟨e, he, rfl⟩ := List.mem_map.mp hd
  exact (hx e he).sm) (by rw [List.length_map]; exact hm)
theorem optS_sm {o : Option PySem.Str} (h : ∀ c, o = some c → Tm 500 450 c) : Sm 0 5010 (optS o) := by
  cases o with
  | some c => exact Sm.str (h c rfl) (by decide)
  | none => exact ⟨.non, Nat.le_refl _, by show 10 ≤ _; decide⟩
/-- tree and lock -/
theorem tl_sm {F : Fl} {o : Option PySem.Str} (h : FT F) (l : F.length ≤ 64) (ho : ∀ c, o = some c → Tm 500 450 c) : Sm 2 1410000 (.tup [fsD F, optS o]) :=
  (Sm.tup (k := 1) (n := 700000) (m := 2) (fun d hd => by
    simp only [List.mem_cons, List.not_mem_nil, or_false] at hd
    rcases hd with rfl | rfl
    · exact h.sm l
    · exact (optS_sm ho).up (by decide) (by decide)) (Nat.le_refl _)).up (Nat.le_refl _) (by decide)
theorem put_tm_len {D : List Deed} (h : ∀ d ∈ D, DTm d) : ∀ e ∈ D, ∀ x c, e = .put x c → c.length ≤ 999 := fun e he x c z => by
  have := h e he
  rw [z] at this
  exact Nat.le_trans this.2.len (by decide)
/-- texts of logs with few short words -/
theorem log_tm7 {g : Lg} (h : ∀ ws ∈ g.1, ws.length ≤ 3 ∧ ∀ x ∈ ws, Tm 10 3 x) (hl : Tm 10 3 g.2) (few : g.1.length ≤ 7) : Tm 500 450 (logT g) ∧ _root_.DK.GOk g := by
  refine ⟨?_, ⟨by omega, fun ws hw => ⟨(h ws hw).1, fun x hx => by have := ((h ws hw).2 x hx).len; omega⟩, by have := hl.len; omega⟩⟩
  have hd : Tm 33 9 (headT g.1.length) := by
    have : ∀ n ∈ [0, 1, 2, 3, 4, 5, 6, 7], _root_.DK.tmS 33 9 (headT n) = true := by decide +kernel
    exact tmS_of (this _ (by simp only [List.mem_cons, List.not_mem_nil, or_false]; omega))
  have := _root_.DK.tm_joinG (y := Nl) (ps := headT g.1.length :: (g.1.map (Txt.join Bk) ++ ["lock " ++ g.2])) (n := 33) (g := 9) (k := 9) (tmS_of (by decide +kernel)) (fun p hp => by
    rcases List.mem_cons.mp hp with e | hp
    · rw [e]; exact hd
    · rcases List.mem_append.mp hp with hp | hp
      · obtain ⟨ws, hw, rfl⟩ := List.mem_map.mp hp
        exact (_root_.DK.tm_joinG (y := Bk) (n := 10) (g := 3) (k := 3) (tmS_of (by decide +kernel)) (h ws hw).2 (h ws hw).1).up (by decide) (by decide)
      · rw [List.mem_singleton.mp hp]
        exact ((tmS_of (n := 5) (g := 0) (x := "lock ") (by decide +kernel)).app hl).up (by decide) (by decide)) (by rw [List.length_cons, List.length_append, List.length_map, List.length_singleton]; omega)
  exact this.up (by decide) (by decide)
/-! ### _law_last_tree -/
theorem lookD_fs {F : Fl} {x c : PySem.Str} (h : getF F x = some c) : lookD (F.map (·.1)) (F.map fun p => Dt.str p.2) x = some (.str c) := by rw [look_fs, h]; rfl
theorem aft_map_snoc {F : Fl} {L : List (List PySem.Str)} {i : Nat} {ws : List PySem.Str} (h : L[i]? = some ws) : aft F ((L.take (i + 1)).map (sdeed F)) = aft1 (aft F ((L.take i).map (sdeed F))) (sdeed F ws) := by
  rw [take_snoc h, List.map_append, aft_app]; rfl
end VL
/-! Steps between trees. -/
namespace VL
open PySem PySem.Spec PyProof.Rows L2 TL RX
open _root_.DK (Fl fsD getF putF dropF Ord get_mem get_none mem_get get_perm get_put perm_get put_nd drop_nd put_new prF prF_ord Tm tmS_of)
def stP (A B : Fl) : Fl := B.filter fun p => decide (getF A p.1 ≠ some p.2)
def stX (A B : Fl) : List PySem.Str := (A.map (·.1)).reverse.filter fun x => decide (x ∉ B.map (·.1))
def stD (A B : Fl) : List Deed := (stX A B).map Deed.drop ++ (stP A B).map fun p => Deed.put p.1 p.2
theorem stD_len (A B : Fl) : (stD A B).length ≤ A.length + B.length := by
  unfold stD stX stP
  rw [List.length_append, List.length_map, List.length_map]
  have a := List.length_filter_le (fun x => decide (x ∉ B.map (·.1))) (A.map (·.1)).reverse
  have b := List.length_filter_le (fun p => decide (getF A p.1 ≠ some p.2)) B
  rw [List.length_reverse, List.length_map] at a
  omega
theorem eff_drops (xs : List PySem.Str) (x : PySem.Str) : eff (xs.map Deed.drop) x = if x ∈ xs then some none else none := by
  induction xs with
  | nil => simp [eff]
  | cons y xs ih =>
    show (eff (xs.map Deed.drop) x).or (if x = y then some none else none) = _
    rw [ih]
    by_cases h : x ∈ xs
    · rw [if_pos h, if_pos (List.mem_cons_of_mem _ h)]; rfl
    · rw [if_neg h]
      by_cases e : x = y
      · rw [if_pos e, if_pos (by rw [e]; exact List.mem_cons_self)]; rfl
      · rw [if_neg e, if_neg (fun z => (List.mem_cons.mp z).elim e h)]; rfl
theorem eff_puts {P : Fl} (nd : (P.map (·.1)).Nodup) (x : PySem.Str) : eff (P.map fun p => Deed.put p.1 p.2) x = (getF P x).map some := by
  induction P with
  | nil => rfl
  | cons p P ih =>
    rw [List.map_cons, List.nodup_cons] at nd
    show (eff (P.map fun p => Deed.put p.1 p.2) x).or (if x = p.1 then some (some p.2) else none) = _
    rw [ih nd.2]
    by_cases e : x = p.1
    · rw [if_pos e, _root_.DK.get_pos e.symm, get_none.mpr (by rw [e]; exact nd.1)]; rfl
    · rw [if_neg e, _root_.DK.get_neg (fun z => e z.symm)]
      cases getF P x <;> rfl
theorem stD_pd (A B : Fl) : ∀ d ∈ stD A B, isPD d = true := fun d hd => by
  rcases List.mem_append.mp hd with z | z
  · obtain ⟨x, _, rfl⟩ := List.mem_map.mp z; rfl
  · obtain ⟨x, _, rfl⟩ := List.mem_map.mp z; rfl
theorem stP_nd {A B : Fl} (nd : (B.map (·.1)).Nodup) : ((stP A B).map (·.1)).Nodup := (List.filter_sublist.map _).nodup nd
theorem stP_get {A B : Fl} (nd : (B.map (·.1)).Nodup) (x : PySem.Str) : getF (stP A B) x = if getF A x = getF B x then none else getF B x := by
  cases e : getF B x with
  | none =>
    have : getF (stP A B) x = none := get_none.mpr fun m => get_none.mp e ((List.filter_sublist.map _).subset m)
    rw [this]; split <;> rfl
  | some c =>
    have m := get_mem e
    by_cases z : getF A x = some c
    · rw [if_pos z]
      refine get_none.mpr fun h => ?_
      obtain ⟨p, hp, rfl⟩ := List.mem_map.mp h
      obtain ⟨h1, h2⟩ := List.mem_filter.mp hp
      have := mem_get nd h1
      rw [e] at this
      have := Option.some.inj this
      rw [← this] at h2
      exact of_decide_eq_true h2 z
    · rw [if_neg z]
      have : (x, c) ∈ stP A B := List.mem_filter.mpr ⟨m, decide_eq_true z⟩
      exact mem_get (stP_nd nd) this
theorem stX_mem (A B : Fl) (x : PySem.Str) : x ∈ stX A B ↔ x ∈ A.map (·.1) ∧ x ∉ B.map (·.1) := by
  unfold stX
  rw [List.mem_filter, List.mem_reverse, decide_eq_true_eq]
/-- the steps lead from the one to the other -/
theorem step_get {F A B : Fl} (nb : (B.map (·.1)).Nodup) (h : ∀ x, getF F x = getF A x) (x : PySem.Str) : getF (aft F (stD A B)) x = getF B x := by
  rw [get_aft (stD_pd A B)]
  unfold stD
  rw [eff_app, eff_puts (stP_nd nb), eff_drops, stP_get nb, h]
  by_cases z : getF A x = getF B x
  · rw [if_pos z, z]
    by_cases m : x ∈ stX A B
    · rw [if_pos m]
      exact (get_none.mpr ((stX_mem A B x).mp m).2).symm
    · rw [if_neg m]; rfl
  · rw [if_neg z]
    cases e : getF B x with
    | some c => rfl
    | none =>
      have : x ∈ stX A B := (stX_mem A B x).mpr ⟨Classical.byContradiction fun w => z (by rw [get_none.mpr w, e]), get_none.mp e⟩
      rw [if_pos this]; rfl
theorem stD_tm {A B : Fl} (ha : FT A) (hb : FT B) : ∀ d ∈ stD A B, DTm d := fun d hd => by
  rcases List.mem_append.mp hd with z | z
  · obtain ⟨x, hx, rfl⟩ := List.mem_map.mp z
    obtain ⟨p, hp, rfl⟩ := List.mem_map.mp ((stX_mem A B x).mp hx).1
    exact (ha p hp).1
  · obtain ⟨p, hp, rfl⟩ := List.mem_map.mp z
    exact hb p (List.mem_filter.mp hp).1
theorem filt_snoc {α : Type} {l : List α} {i : Nat} {a : α} (h : l[i]? = some a) (p : α → Bool) : (l.take (i + 1)).filter p = (l.take i).filter p ++ if p a = true then [a] else [] := by
  rw [take_snoc h, List.filter_append]
  congr 1
  by_cases z : p a = true
  · rw [if_pos z, List.filter_cons_of_pos z]; rfl
  · rw [if_neg z, List.filter_cons_of_neg z]; rfl
def sp_steps (as : List Ar) (M : Dt → Prop) : Prop := ∃ F E : Fl, as = [.d (fsD F), .d (fsD E)] ∧ (F.map (·.1)).Nodup ∧ (E.map (·.1)).Nodup ∧ F.length < 64 ∧ E.length < 64 ∧ ∀ A B, Ord F A → Ord E B → M (.lst ((stD A B).map dD))
section
variable {M : Dt → Prop} {F E : Fl}
/-- the second half of both -/
theorem steps_rest (nF : (F.map (·.1)).Nodup) (nE : (E.map (·.1)).Nodup) (lE : E.length < 64) {A : Fl} (oA : Ord F A) (lA : A.length < 64) (q : ∀ B, Ord E B → M (.lst ((stD A B).map dD))) :
    (dRet (vOp catD (vVarC 2) (vLc (viSeq (vCall sortedKD (vlCons (vVarC 1) vlNil))) (vName 3) (vOr (vBl (vOp notInD (vVarC 3) (vVarC 0))) (vBl (vOp neD (vOp ixD (vVarC 0) (vVarC 3)) (vOp ixD (vVarC 1) (vVarC 3))))) (vTup (vlCons (vConst (.str "put")) (vlCons (vVar 3) (vlCons (vOp ixD (vVarC 1) (vVarC 3)) vlNil)))) [3]))) { nx := fun _ => False, rt := M } [some (.d (fsD F)), some (.d (fsD E)), some (.d (.lst ((stX A E).map fun x => dD (.drop x)))), none] := by
  refine ⟨by rw [List.length_map]; exact lE, fun zs pz sz => ?_⟩
  have nz : zs.Nodup := pz.nodup_iff.mpr nE
  have lz : zs.length < 64 := by rw [pz.length_eq, List.length_map]; exact lE
  have oB := prF_ord nE pz sz
  have nB : ((prF E zs).map (·.1)).Nodup := by rw [_root_.DK.prF_keys]; exact nz
  have nA : (A.map (·.1)).Nodup := (oA.p.map _).nodup_iff.mpr nF
  refine ⟨fun i acc => acc = (((prF E zs).take i).filter fun p => decide (getF A p.1 ≠ some p.2)).map fun p => dD (.put p.1 p.2), rfl, ?_, ?_⟩
  · rintro i d acc hd rfl
    obtain ⟨y, hy, rfl⟩ := mapAt hd
    obtain ⟨c, hc⟩ := mem_keys (pz.mem_iff.mp (List.mem_of_getElem? hy))
    have hp : (prF E zs)[i]? = some (y, c) := by
      unfold prF
      rw [List.getElem?_map, hy]
      show some (y, (getF E y).getD "") = _
      rw [hc]; rfl
    have fs := filt_snoc hp fun p => decide (getF A p.1 ≠ some p.2)
    have fl := List.length_filter_le (fun p : PySem.Str × PySem.Str => decide (getF A p.1 ≠ some p.2)) ((prF E zs).take i)
    have pl : (prF E zs).length = zs.length := by unfold prF; rw [List.length_map]
    rw [List.length_take, pl] at fl
    have gA : getF F y = getF A y := (get_perm nA oA.p y).symm
    have yes : getF A y ≠ some c → ∃ d', lookD (E.map (·.1)) (E.map fun p => Dt.str p.2) y = some d' ∧ 3 ≤ sizeLine ∧ ((((prF E zs).take i).filter fun p => decide (getF A p.1 ≠ some p.2)).map fun p => dD (.put p.1 p.2)).length < sizeLine ∧
        ((((prF E zs).take i).filter fun p => decide (getF A p.1 ≠ some p.2)).map fun p => dD (.put p.1 p.2)) ++ [Dt.tup [.str "put", .str y, d']] = (((prF E zs).take (i + 1)).filter fun p => decide (getF A p.1 ≠ some p.2)).map fun p => dD (.put p.1 p.2) := fun ne =>
      ⟨.str c, lookD_fs hc, by rw [slz]; decide, by rw [List.length_map, slz]; omega, by rw [fs, if_pos (decide_eq_true ne), List.map_append]; rfl⟩
    show if (!decide (y ∈ F.map (·.1))) = true then _ else _
    by_cases m : y ∈ F.map (·.1)
    · refine iteN (by rw [decide_eq_true m]; decide) ?_
      obtain ⟨c0, h0⟩ := mem_keys m
      refine ⟨.str c0, lookD_fs h0, .str c, lookD_fs hc, ?_⟩
      show if (!decide (c0 = c)) = true then _ else _
      by_cases e : c0 = c
      · refine iteN (by rw [decide_eq_true e]; decide) ?_
        show _ = _
        rw [fs, if_neg (by
          show ¬ decide (getF A y ≠ some c) = true
          rw [← gA, h0, e]; simp), List.append_nil]
      · refine iteP (by rw [decide_eq_false e]; rfl) ?_
        obtain ⟨d', h1, h2, h3, h4⟩ := yes (by rw [← gA, h0]; exact fun z => e (Option.some.inj z))
        exact ⟨d', h1, h2, h3, h4⟩
    · refine iteP (by rw [decide_eq_false m]; rfl) ?_
      obtain ⟨d', h1, h2, h3, h4⟩ := yes (by rw [← gA, get_none.mpr m]; exact fun z => nomatch z)
      exact ⟨d', h1, h2, h3, h4⟩
  · rintro acc rfl
    rw [List.length_map, show zs.length = (prF E zs).length by unfold prF; rw [List.length_map], List.take_length]
    have xe : stX A E = stX A (prF E zs) := by
      unfold stX
      refine List.filter_congr fun x _ => decide_eq_decide.mpr ?_
      rw [_root_.DK.prF_keys, pz.mem_iff]
    have l1 := List.length_filter_le (fun x => decide (x ∉ E.map (·.1))) (A.map (·.1)).reverse
    rw [List.length_reverse, List.length_map] at l1
    have l2 := List.length_filter_le (fun p : PySem.Str × PySem.Str => decide (getF A p.1 ≠ some p.2)) (prF E zs)
    have pl : (prF E zs).length = zs.length := by unfold prF; rw [List.length_map]
    refine ⟨by rw [List.length_map, List.length_map, slz]; unfold stX; omega, ?_⟩
    have := q _ oB
    unfold stD at this
    rw [List.map_append, List.map_map, List.map_map, ← xe] at this
    exact this
end
abbrev N_steps_between : List PySem.Str := ["old", "new", "drops", "path"]
abbrev P_steps_between : List PySem.Str := ["old", "new"]
def T_steps_between : DS :=
  (dSeq (dSet 2 (vLc (viRev (vCall sortedKD (vlCons (vVarC 0) vlNil))) (vName 3) (vBl (vOp notInD (vVarC 3) (vVarC 1))) (vTup (vlCons (vConst (.str "drop")) (vlCons (vVar 3) vlNil))) [3]))
  (dRet (vOp catD (vVarC 2) (vLc (viSeq (vCall sortedKD (vlCons (vVarC 1) vlNil))) (vName 3) (vOr (vBl (vOp notInD (vVarC 3) (vVarC 0))) (vBl (vOp neD (vOp ixD (vVarC 0) (vVarC 3)) (vOp ixD (vVarC 1) (vVarC 3))))) (vTup (vlCons (vConst (.str "put")) (vlCons (vVar 3) (vlCons (vOp ixD (vVarC 1) (vVarC 3)) vlNil)))) [3]))))

def sp_steps_between : DSp := sp_steps
theorem len_steps_between {as : List Ar} {M : Dt → Prop} (h : sp_steps_between as M) : as.length = P_steps_between.length := by obtain ⟨_, _, rfl, _⟩ := h; rfl
theorem t_steps_between {as : List Ar} {M : Dt → Prop} (h : sp_steps_between as M) : T_steps_between { nx := fun _ => False, rt := M } (stEv N_steps_between as) := by
  obtain ⟨F, E, rfl, nF, nE, lF, lE, q⟩ := h
  refine ⟨by rw [List.length_map]; exact lF, fun ys py so => ?_⟩
  have ny : ys.Nodup := py.nodup_iff.mpr nF
  have ly : ys.length < 64 := by rw [py.length_eq, List.length_map]; exact lF
  have oA := prF_ord nF py so
  have kA := _root_.DK.prF_keys F ys
  have lA : (prF F ys).length < 64 := by unfold prF; rw [List.length_map]; exact ly
  refine ⟨fun i acc => acc = ((ys.reverse.take i).filter fun x => decide (x ∉ E.map (·.1))).map fun x => dD (.drop x), rfl, ?_, ?_⟩
  · rintro i d acc hd rfl
    rw [← List.map_reverse] at hd
    obtain ⟨y, hy, rfl⟩ := mapAt hd
    have fs := filt_snoc hy fun x => decide (x ∉ E.map (·.1))
    have fl := List.length_filter_le (fun x => decide (x ∉ E.map (·.1))) (ys.reverse.take i)
    rw [List.length_take, List.length_reverse] at fl
    show if (!decide (y ∈ E.map (·.1))) = true then _ else _
    by_cases m : y ∈ E.map (·.1)
    · refine iteN (by rw [decide_eq_true m]; decide) ?_
      show _ = _
      rw [fs, if_neg (by rw [decide_eq_false (fun z => z m)]; decide), List.append_nil]
    · refine iteP (by rw [decide_eq_false m]; rfl) ?_
      refine ⟨by show 2 ≤ _; rw [slz]; decide, by rw [List.length_map, slz]; omega, ?_⟩
      show _ = _
      rw [fs, if_pos (decide_eq_true m), List.map_append]; rfl
  · rintro acc rfl
    rw [List.length_reverse, List.length_map, show ys.length = ys.reverse.length from List.length_reverse.symm, List.take_length]
    have := steps_rest (M := M) (F := F) (E := E) nF nE lE oA lA fun B oB => q _ B oA oB
    unfold stX at this
    rw [kA] at this
    exact this
abbrev N__law_steps : List PySem.Str := ["old", "new", "found", "path"]
abbrev P__law_steps : List PySem.Str := ["old", "new"]
def T__law_steps : DS :=
  (dSeq (dSet 2 (vLc (viSeq (vRev (vCall sortedKD (vlCons (vVarC 0) vlNil)))) (vName 3) (vBl (vOp notInD (vVarC 3) (vVarC 1))) (vTup (vlCons (vConst (.str "drop")) (vlCons (vVar 3) vlNil))) [3]))
  (dRet (vOp catD (vVarC 2) (vLc (viSeq (vCall sortedKD (vlCons (vVarC 1) vlNil))) (vName 3) (vOr (vBl (vOp notInD (vVarC 3) (vVarC 0))) (vBl (vOp neD (vOp ixD (vVarC 0) (vVarC 3)) (vOp ixD (vVarC 1) (vVarC 3))))) (vTup (vlCons (vConst (.str "put")) (vlCons (vVar 3) (vlCons (vOp ixD (vVarC 1) (vVarC 3)) vlNil)))) [3]))))

def sp__law_steps : DSp := sp_steps
theorem len__law_steps {as : List Ar} {M : Dt → Prop} (h : sp__law_steps as M) : as.length = P__law_steps.length := by obtain ⟨_, _, rfl, _⟩ := h; rfl
theorem t__law_steps {as : List Ar} {M : Dt → Prop} (h : sp__law_steps as M) : T__law_steps { nx := fun _ => False, rt := M } (stEv N__law_steps as) := by
  obtain ⟨F, E, rfl, nF, nE, lF, lE, q⟩ := h
  refine ⟨by rw [List.length_map]; exact lF, fun ys py so => ?_⟩
  have ny : ys.Nodup := py.nodup_iff.mpr nF
  have ly : ys.length < 64 := by rw [py.length_eq, List.length_map]; exact lF
  have oA := prF_ord nF py so
  have kA := _root_.DK.prF_keys F ys
  have lA : (prF F ys).length < 64 := by unfold prF; rw [List.length_map]; exact ly
  refine ⟨fun i acc => acc = ((ys.reverse.take i).filter fun x => decide (x ∉ E.map (·.1))).map fun x => dD (.drop x), rfl, ?_, ?_⟩
  · rintro i d acc hd rfl
    rw [← List.map_reverse] at hd
    obtain ⟨y, hy, rfl⟩ := mapAt hd
    have fs := filt_snoc hy fun x => decide (x ∉ E.map (·.1))
    have fl := List.length_filter_le (fun x => decide (x ∉ E.map (·.1))) (ys.reverse.take i)
    rw [List.length_take, List.length_reverse] at fl
    show if (!decide (y ∈ E.map (·.1))) = true then _ else _
    by_cases m : y ∈ E.map (·.1)
    · refine iteN (by rw [decide_eq_true m]; decide) ?_
      show _ = _
      rw [fs, if_neg (by rw [decide_eq_false (fun z => z m)]; decide), List.append_nil]
    · refine iteP (by rw [decide_eq_false m]; rfl) ?_
      refine ⟨by show 2 ≤ _; rw [slz]; decide, by rw [List.length_map, slz]; omega, ?_⟩
      show _ = _
      rw [fs, if_pos (decide_eq_true m), List.map_append]; rfl
  · rintro acc rfl
    rw [List.length_reverse, List.length_map, show ys.length = ys.reverse.length from List.length_reverse.symm, List.take_length]
    have := steps_rest (M := M) (F := F) (E := E) nF nE lE oA lA fun B oB => q _ B oA oB
    unfold stX at this
    rw [kA] at this
    exact this
abbrev N__law_stepped : List PySem.Str := ["tree", "steps", "step"]
abbrev P__law_stepped : List PySem.Str := ["tree", "steps"]
def T__law_stepped : DS :=
  (dSeq (dSetO 0 (vCall dictFD (vlCons (vVarC 0) vlNil)))
  (dSeq (dFor (viSeq (vVar 1)) (vName 2)
  (dIf (vBl (vOp eqD (vOp ixD (vVarC 2) (vConst (.int 0))) (vConst (.str "drop"))))
  (dMu 0 "dict" dpopD (vlCons (vOp ixD (vVarC 2) (vConst (.int 1))) vlNil))
  (dPut 0 (vOp ixD (vVarC 2) (vConst (.int 1))) (vOp ixD (vVarC 2) (vConst (.int 2))))))
  (dRetV 0)))

def sp__law_stepped : DSp := fun as M => ∃ (F : Fl) (D : List Deed), as = [.d (fsD F), .d (.lst (D.map dD))] ∧ (F.map (·.1)).Nodup ∧ F.length + D.length ≤ 1000 ∧ (∀ d ∈ D, isPD d = true) ∧ (∀ k x, D[k]? = some (.drop x) → x ∈ (aft F (D.take k)).map (·.1)) ∧ M (fsD (aft F D))
theorem len__law_stepped {as : List Ar} {M : Dt → Prop} (h : sp__law_stepped as M) : as.length = P__law_stepped.length := by obtain ⟨_, _, rfl, _⟩ := h; rfl
theorem t__law_stepped {as : List Ar} {M : Dt → Prop} (h : sp__law_stepped as M) : T__law_stepped { nx := fun _ => False, rt := M } (stEv N__law_stepped as) := by
  obtain ⟨F, D, rfl, nd, few, pd, on, q⟩ := h
  refine ⟨fun i ρ => ∃ a, ρ = [some (.own (fsD (aft F (D.take i)))), some (.d (.lst (D.map dD))), a], ⟨_, rfl⟩, ?_, ?_⟩
  · rintro i d ρ hd ⟨a, rfl⟩
    obtain ⟨e, he, rfl⟩ := mapAt hd
    have il := (List.getElem?_eq_some_iff.mp he).1
    have st : aft F (D.take (i + 1)) = aft1 (aft F (D.take i)) e := by rw [take_snoc he, aft_app]; rfl
    have al := aft_len F (D.take i)
    rw [List.length_take] at al
    cases e with
    | put x c =>
      refine ⟨.str "put", rfl, ?_⟩
      refine ⟨.str c, rfl, .str x, rfl, by rw [List.length_map, slz]; omega, some (.d (dD (.put x c))), ?_⟩
      rw [st]
      show [some (W.own (.dic (keysP _ x) (valsP _ _ x (.str c)))), _, _] = _
      rw [fsD_put]; rfl
    | drop x =>
      refine ⟨.str "drop", rfl, ?_⟩
      obtain ⟨c, hc⟩ := mem_keys (on i x he)
      refine ⟨rfl, .str x, rfl, .str c, lookD_fs hc, some (.d (dD (.drop x))), ?_⟩
      rw [st]
      show [some (W.own (.dic (keysX _ x) (valsX _ _ x))), _, _] = _
      rw [keysX_fs]; rfl
    | move x y => exact Bool.noConfusion (show false = true from pd _ (List.mem_of_getElem? he))
  · rintro ρ ⟨a, rfl⟩
    rw [List.length_map, List.take_length]
    exact q
/-- every drop of the steps finds its file -/
theorem stD_on {F A B : Fl} (nA : (A.map (·.1)).Nodup) (nB : (B.map (·.1)).Nodup) (h : ∀ x, getF F x = getF A x) : ∀ k x, (stD A B)[k]? = some (.drop x) → x ∈ (aft F ((stD A B).take k)).map (·.1) := by
  intro k x e
  have xm : x ∈ stX A B ∧ k < (stX A B).length ∧ (stX A B)[k]? = some x := by
    unfold stD at e
    by_cases l : k < ((stX A B).map Deed.drop).length
    · rw [List.getElem?_append_left l, List.getElem?_map] at e
      obtain ⟨y, hy, z⟩ := Option.map_eq_some_iff.mp e
      cases z
      exact ⟨List.mem_of_getElem? hy, by rw [List.length_map] at l; exact l, hy⟩
    · rw [List.getElem?_append_right (by omega)] at e
      obtain ⟨p, _, z⟩ := List.mem_map.mp (List.mem_of_getElem? e)
      cases z
  have tk : (stD A B).take k = ((stX A B).take k).map Deed.drop := by
    unfold stD
    rw [List.take_append_of_le_length (by rw [List.length_map]; omega), List.map_take]
  have nX : (stX A B).Nodup := List.Pairwise.sublist List.filter_sublist ((List.reverse_perm _).nodup_iff.mpr nA)
  rw [tk]
  obtain ⟨xA, _⟩ := (stX_mem A B x).mp xm.1
  obtain ⟨c, hc⟩ := mem_keys xA
  refine key_iff.mpr ⟨c, ?_⟩
  rw [get_aft (fun d hd => by obtain ⟨y, _, rfl⟩ := List.mem_map.mp hd; rfl), eff_drops, if_neg (nd_take nX xm.2.2)]
  show getF F x = some c
  rw [h, hc]
end VL
/-! The law k66, by data. -/
namespace VL
open PySem PySem.Spec PyProof.Rows L2 TL RX
open _root_.DK (Fl fsD getF putF dropF Ord get_mem get_none mem_get get_perm get_put perm_get put_nd drop_nd put_new prF prF_ord Tm tmS_of FsOk Pk RgOk PkOk regD pkD Pl PlOk plD TrP treeF Vs verD etD ftD cpD)
/-! sizes of registries and plans -/
theorem vs_sm {v : List Int} (h : Vs v) : Sm 1 300 (verD v) := by
  refine ⟨.tup ?_, ?_, ?_⟩
  · have : ∀ l : List Int, (∀ n ∈ l, 0 ≤ n ∧ n < 1000000) → FineAll (l.map Dt.int) := by
      intro l
      induction l with
      | nil => intro _; exact .nil
      | cons i l ih =>
        intro h
        have := h i List.mem_cons_self
        exact .cons (.int i (Nat.lt_of_lt_of_le (show i.natAbs < 1000000 by omega) (by decide +kernel))) (ih fun n hn => h n (List.mem_cons_of_mem _ hn))
    exact this v h.2
  · have : ∀ l : List Int, Dt.depAll (l.map Dt.int) = 0 := by
      intro l
      induction l with
      | nil => rfl
      | cons i l ih => show max 0 (Dt.depAll (l.map Dt.int)) = 0; rw [ih]; rfl
    show Dt.depAll (v.map Dt.int) + 1 ≤ 1
    rw [this]; exact Nat.le_refl _
  · have : ∀ l : List Int, Dt.costAll (l.map Dt.int) = 70 * l.length := by
      intro l
      induction l with
      | nil => rfl
      | cons i l ih => show 70 + Dt.costAll (l.map Dt.int) = _; rw [ih, List.length_cons]; omega
    show 10 + Dt.costAll (v.map Dt.int) ≤ 300
    rw [this, h.1]; decide
theorem Sm.cons2 {ds : List Dt} {k n m : Nat} (h : ∀ d ∈ ds, Sm k n d) (l : ds.length ≤ m) : Sm (k + 1) (10 + m * n) (.tup ds) := Sm.tup h l
theorem Sm.fup {k n m : Nat} {ds : List Dt} (h : ∀ d ∈ ds, Sm k n d) (l : ds.length ≤ m) : Sm (k + 1) (10 + m * n) (.fup ds) := by
  obtain ⟨a, b, c⟩ := smAll h
  have := Nat.mul_le_mul_right n l
  exact ⟨.fup a, Nat.succ_le_succ b, by show 10 + Dt.costAll ds ≤ _; omega⟩
theorem lit_sm {x : PySem.Str} (h : _root_.DK.tmS 25 5 x = true) : Sm 0 300 (.str x) := (Sm.str (tmS_of h) (by decide)).up (Nat.le_refl _) (by decide)
theorem nil_sm : Sm 1 300 (.tup []) := (Sm.tup (k := 0) (n := 0) (m := 0) (ds := []) (fun d hd => by cases hd) (Nat.le_refl _)).up (Nat.le_refl _) (by decide)
theorem ft_sm (b : Bool) : Sm 3 3000 (ftD b) := by
  cases b with
  | false => exact nil_sm.up (by decide) (by decide)
  | true =>
    have h : Sm 2 1000 (.tup [.str "f", .tup [], .tup []]) := (Sm.tup (k := 1) (n := 300) (m := 3) (fun d hd => by
      simp only [List.mem_cons, List.not_mem_nil, or_false] at hd
      rcases hd with rfl | rfl | rfl
      · exact (lit_sm (by decide +kernel)).up (by decide) (Nat.le_refl _)
      · exact nil_sm
      · exact nil_sm) (Nat.le_refl _)).up (Nat.le_refl _) (by decide)
    exact (Sm.tup (k := 2) (n := 1000) (m := 1) (fun d hd => by rw [List.mem_singleton.mp hd]; exact h) (Nat.le_refl _)).up (Nat.le_refl _) (by decide)
theorem pk_sm {p : Pk} (h : PkOk p) : Sm 4 40000 (pkD p) := by
  have fs : Sm 2 3000 (.fup (p.fs.map cpD)) := (Sm.fup (k := 1) (n := 700) (m := 4) (fun d hd => by
    obtain ⟨c, hc, rfl⟩ := List.mem_map.mp hd
    obtain ⟨a, b⟩ := h.pt.2 c hc
    refine (Sm.tup (k := 0) (n := 300) (m := 2) (fun d hd => ?_) (Nat.le_refl _)).up (Nat.le_refl _) (by decide)
    simp only [List.mem_cons, List.not_mem_nil, or_false] at hd
    rcases hd with rfl | rfl
    · exact (Sm.str (tmS_of (som_tm p.nm h.nm c.1 a)) (by decide)).up (Nat.le_refl _) (by decide)
    · exact lit_sm (odc_tm c.2 b)) (by rw [List.length_map]; exact h.few)).up (Nat.le_refl _) (by decide)
  refine (Sm.tup (k := 3) (n := 3000) (m := 8) (fun d hd => ?_) (Nat.le_refl _)).up (Nat.le_refl _) (by decide)
  simp only [List.mem_cons, List.not_mem_nil, or_false] at hd
  rcases hd with rfl | rfl | rfl | rfl | rfl | rfl | rfl | rfl
  · exact (Sm.str (tmS_of (nm_tm p.nm h.nm)) (by decide)).up (by decide) (by decide)
  · exact (vs_sm h.vs).up (by decide) (by decide)
  · exact nil_sm.up (by decide) (by decide)
  · exact nil_sm.up (by decide) (by decide)
  · exact nil_sm.up (by decide) (by decide)
  · exact ft_sm _
  · exact nil_sm.up (by decide) (by decide)
  · exact fs.up (by decide) (by decide)
theorem rg_sm {R : List Pk} (h : RgOk R) : Sm 6 300000 (regD R) := by
  have a : Sm 5 250000 (.tup (R.map pkD)) := (Sm.tup (k := 4) (n := 40000) (m := 6) (fun d hd => by
    obtain ⟨p, hp, rfl⟩ := List.mem_map.mp hd
    exact pk_sm (h.all p hp)) (by rw [List.length_map]; exact h.few)).up (Nat.le_refl _) (by decide)
  have n : Dt.costAll [.tup (R.map pkD), .tup []] ≤ 260000 := by
    show (Dt.tup (R.map pkD)).cost + (10 + 0 + 0) ≤ _
    have := a.cost; omega
  refine ⟨.tup (.cons a.fine (.cons (.tup .nil) .nil)), ?_, ?_⟩
  · show max (Dt.tup (R.map pkD)).dep (max 1 0) + 1 ≤ 6
    have := a.dep; omega
  · show 10 + Dt.costAll [.tup (R.map pkD), .tup []] ≤ _
    omega
theorem pl_sm {R : List Pk} {L : Pl} (hR : RgOk R) (h : PlOk R L) : Sm 3 10000 (plD L) := by
  have vs : ∀ d ∈ L.map (fun e => etD e.2), Sm 2 1500 d := fun d hd => by
    obtain ⟨e, he, rfl⟩ := List.mem_map.mp hd
    obtain ⟨p, hp, e1, e2⟩ := h.of e he
    refine (Sm.tup (k := 1) (n := 310) (m := 2) (fun d hd => ?_) (Nat.le_refl _)).up (Nat.le_refl _) (by decide)
    simp only [List.mem_cons, List.not_mem_nil, or_false] at hd
    rcases hd with rfl | rfl
    · have := vs_sm (hR.all p hp).vs
      rw [← e2] at this
      exact this.up (Nat.le_refl _) (by decide)
    · cases e.2.2 with
      | false => exact nil_sm.up (Nat.le_refl _) (by decide)
      | true => exact (Sm.tup (k := 0) (n := 300) (m := 1) (fun d hd => by rw [List.mem_singleton.mp hd]; exact lit_sm (by decide +kernel)) (Nat.le_refl _)).up (Nat.le_refl _) (by decide)
  obtain ⟨x, y, z⟩ := smAll vs
  rw [List.length_map] at z
  have l3 := h.few hR
  refine ⟨.dic (fun k' hk => ?_) x, Nat.succ_le_succ y, ?_⟩
  · obtain ⟨e, he, rfl⟩ := List.mem_map.mp hk
    obtain ⟨p, hp, e1, e2⟩ := h.of e he
    rw [e1]
    exact sg_tm (tmS_of (nm_tm p.nm (hR.all p hp).nm)) (by decide)
  · show 10 + ((L.map (·.1)).map fun k => 10 * k.length + 20).sum + Dt.costAll (L.map fun e => etD e.2) ≤ _
    have : ((L.map (·.1)).map fun k => 10 * k.length + 20).sum ≤ L.length * 80 := by
      have : ∀ S : Pl, (∀ e ∈ S, e ∈ L) → ((S.map (·.1)).map fun k => 10 * k.length + 20).sum ≤ S.length * 80 := by
        intro S
        induction S with
        | nil => intro _; exact Nat.zero_le _
        | cons e S ih =>
          intro hs
          have i := ih fun f hf => hs f (List.mem_cons_of_mem _ hf)
          obtain ⟨p, hp, e1, e2⟩ := h.of e (hs e List.mem_cons_self)
          have := (tmS_of (nm_tm p.nm (hR.all p hp).nm)).len
          rw [List.map_cons, List.map_cons, List.sum_cons, List.length_cons, Nat.add_mul, e1]
          omega
      exact this L fun _ h => h
    have m1 := Nat.mul_le_mul_right 1500 l3
    have m2 := Nat.mul_le_mul_right 80 l3
    omega
theorem FsOk.ft {F : Fl} (h : FsOk F) : FT F := fun p hp => ⟨(tmS_of (_root_.DK.keys_ok _ (h.k p hp))).up (by decide) (by decide), h.c p hp⟩
/-- a tree: small files apart -/
structure Tr (F : Fl) : Prop where
  nd : (F.map (·.1)).Nodup
  few : F.length ≤ 30
  ft : FT F
theorem Tr.perm {F G : Fl} (h : Tr F) (p : G.Perm F) : Tr G := ⟨(p.map _).nodup_iff.mpr h.nd, by rw [p.length_eq]; exact h.few, h.ft.perm p⟩
theorem TO_tr {R : List Pk} {L : Pl} (hR : RgOk R) (hL : PlOk R L) : Tr (TO R L) := ⟨TO_nd hR hL.nd, by have := TO_len hR hL.nd; omega, fun q hq => by
  obtain ⟨a, b⟩ := TO_tm hR q hq
  exact ⟨a.up (by decide) (by decide), b.up (by decide) (by decide)⟩⟩
theorem fs_tr {F : Fl} (h : FsOk F) : Tr (treeF F) := ⟨_root_.DK.tree_nd h.nd, by have := treeF_len F; have := h.few; omega, (FsOk.ft h).tree⟩
theorem Tr.sm {F : Fl} (h : Tr F) : Sm 1 700000 (fsD F) := h.ft.sm (by have := h.few; omega)
theorem items_cp (F : Fl) : itemsOf (F.map (·.1)) (F.map fun p => Dt.str p.2) = F.map cpD := by
  unfold itemsOf
  induction F with
  | nil => rfl
  | cons p F ih => rw [List.map_cons, List.map_cons, List.zipWith_cons_cons, ih]; rfl
abbrev N_law : List PySem.Str := ["script", "bag", "turn", "registry", "files", "plan", "other", "shown", "trees", "couples", "old", "new", "given", "here", "there", "told", "due"]
abbrev P_law : List PySem.Str := ["script"]
def T_law : DS :=
  (dSeq (dFor (viRange1 (vlCons (vConst (.int 4)) vlNil)) (vName 2)
  (dSeq (dSet 3 (vDef sp__law_small_packs (vaB 1 vaNil)))
  (dSeq (dPar3 4 5 6 (vlCons (vDef sp__law_drawn_files (vaB 1 (vaD (vVar 3) vaNil))) (vlCons (vDef sp__law_some_plan (vaB 1 (vaD (vVar 3) vaNil))) (vlCons (vDef sp__law_some_plan (vaB 1 (vaD (vVar 3) vaNil))) vlNil))))
  (dSeq (dSet 7 (vCall reprD (vlCons (vLst (vlCons (vVar 3) (vlCons (vVar 4) (vlCons (vVar 5) vlNil)))) vlNil)))
  (dSeq (dSet 8 (vLst (vlCons (vDef sp__law_tree_of (vaD (vVar 3) (vaD (vVar 5) vaNil))) (vlCons (vDef sp__law_tree_on (vaD (vVar 4) vaNil)) (vlCons (vDef sp__law_tree_of (vaD (vVar 3) (vaD (vVar 6) vaNil))) vlNil)))))
  (dSeq (dIf (vNot (vBl (vDef sp__law_alike (vaD (vLst (vlCons (vDef sp_tree_of (vaD (vVar 3) (vaD (vVar 5) vaNil))) (vlCons (vDef sp_tree_on (vaD (vVar 4) vaNil)) (vlCons (vDef sp_tree_of (vaD (vVar 3) (vaD (vVar 6) vaNil))) vlNil)))) (vaD (vVar 8) vaNil)))))
  (dRet (vConst (.bl false)))
  dNext)
  (dSeq (dSet 9 (vLst (vlCons (vTup (vlCons (vOp ixD (vVarC 8) (vConst (.int 0))) (vlCons (vOp ixD (vVarC 8) (vConst (.int 1))) vlNil))) (vlCons (vTup (vlCons (vOp ixD (vVarC 8) (vConst (.int 1))) (vlCons (vOp ixD (vVarC 8) (vConst (.int 2))) vlNil))) (vlCons (vTup (vlCons (vOp ixD (vVarC 8) (vConst (.int 2))) (vlCons (vOp ixD (vVarC 8) (vConst (.int 0))) vlNil))) (vlCons (vTup (vlCons (vOp ixD (vVarC 8) (vConst (.int 1))) (vlCons (vOp ixD (vVarC 8) (vConst (.int 1))) vlNil))) (vlCons (vTup (vlCons vNewD (vlCons (vOp ixD (vVarC 8) (vConst (.int 1))) vlNil))) vlNil)))))))
  (dSeq (dFor (viSeq (vVar 9)) (vgTup 2 (vgCons (vName 10) (vgCons (vName 11) vgNil)))
  (dSeq (dSet 12 (vCall pairsD (vlCons (vDef sp__law_mixed (vaB 1 (vaD (vItems (vVarC 11)) vaNil))) vlNil)))
  (dFor (viSeq (vTup (vlCons (vTup (vlCons (vVar 10) (vlCons (vVar 12) vlNil))) (vlCons (vTup (vlCons (vVar 12) (vlCons (vVar 10) vlNil))) vlNil)))) (vgTup 2 (vgCons (vName 13) (vgCons (vName 14) vgNil)))
  (dSeq (dPar 15 16 false false (vDef sp_steps_between (vaD (vVar 13) (vaD (vVar 14) vaNil))) (vDef sp__law_steps (vaD (vVar 13) (vaD (vVar 14) vaNil))))
  (dIf (vOr (vNot (vBl (vDef sp__law_alike (vaD (vVar 15) (vaD (vVar 16) vaNil))))) (vBl (vOp neLD (vDef sp__law_stepped (vaD (vVar 13) (vaD (vVar 15) vaNil))) (vVarC 14))))
  (dRet (vConst (.bl false)))
  dNext)))))
  (dIf (vBl (vOp neD (vCall reprD (vlCons (vLst (vlCons (vVar 3) (vlCons (vVar 4) (vlCons (vVar 5) vlNil)))) vlNil)) (vVarC 7)))
  (dRet (vConst (.bl false)))
  dNext)))))))))
  (dRet (vConst (.bl true))))

/-- one couple, one way -/
theorem way_ok {F E : Fl} (hF : Tr F) (hE : Tr E) {M : Bool → Prop} (h : ∀ A B, Ord F A → Ord E B → M false) : True := trivial
theorem t_law : T_law { nx := fun _ => False, rt := fun d => d = .bl true } [none, some .bag, none, none, none, none, none, none, none, none, none, none, none, none, none, none, none] := by
  refine ⟨⟨by decide, by decide⟩, fun _ ρ => ∃ a2 a3 a4 a5 a6 a7 a8 a9 a10 a11 a12 a13 a14 a15 a16, ρ = [none, some .bag, a2, a3, a4, a5, a6, a7, a8, a9, a10, a11, a12, a13, a14, a15, a16], ⟨_, _, _, _, _, _, _, _, _, _, _, _, _, _, _, rfl⟩, ?_, fun ρ _ => rfl⟩
  rintro i0 d0 ρ hd0 ⟨a2, a3, a4, a5, a6, a7, a8, a9, a10, a11, a12, a13, a14, a15, a16, rfl⟩
  refine ⟨rfl, rfl, fun R hR => ?_⟩
  refine ⟨rfl, R, rfl, hR, fun F hF => ⟨rfl, R, rfl, hR, fun L hL => ⟨rfl, R, rfl, hR, fun O hO => ?_⟩⟩⟩
  have gd1 : Gd (.lst [regD R, fsD F, plD L]) := ((Sm.lst (k := 6) (n := 700000) (m := 3) (fun d hd => by
    simp only [List.mem_cons, List.not_mem_nil, or_false] at hd
    rcases hd with rfl | rfl | rfl
    · exact (rg_sm hR).up (by decide) (by decide)
    · exact ((FsOk.ft hF).sm (by have := hF.few; omega)).up (by decide) (by decide)
    · exact (pl_sm hR hL).up (by decide) (by decide)) (Nat.le_refl _))).gd (by decide) (by decide)
  refine ⟨by show 3 ≤ _; rw [slz]; decide, gd1, ?_⟩
  have few := hF.few
  have kl : ∀ p ∈ F, p.1.length ≤ 1000000 := fun p hp => Nat.le_trans ((FsOk.ft hF) p hp).1.len (by decide)
  refine ⟨R, L, rfl, hR, hL.nd, fun G1 o1 => ⟨F, rfl, hF.nd, by omega, kl, fun G2 o2 => ⟨R, O, rfl, hR, hO.nd, fun G3 o3 => ?_⟩⟩⟩
  have t1 : Tr G1 := (TO_tr hR hL).perm o1.p
  have t2 : Tr G2 := (fs_tr hF).perm o2.p
  have t3 : Tr G3 := (TO_tr hR hO).perm o3.p
  have t0 : Tr [] := ⟨List.nodup_nil, Nat.zero_le _, fun p hp => by cases hp⟩
  refine ⟨by show 3 ≤ _; rw [slz]; decide, ?_⟩
  refine ⟨R, L, rfl, hR, hL, fun H1 p1 => ⟨F, rfl, hF.nd, by omega, kl, fun H2 p2 => ⟨R, O, rfl, hR, hO, fun H3 p3 => ?_⟩⟩⟩
  have e1 : H1 = G1 := Ord.one (TO_nd hR hL.nd) p1 o1
  have e2 : H2 = G2 := Ord.one (_root_.DK.tree_nd hF.nd) p2 o2
  have e3 : H3 = G3 := Ord.one (TO_nd hR hO.nd) p3 o3
  subst e1 e2 e3
  refine ⟨by show 3 ≤ _; rw [slz]; decide, _, rfl, ?_, ?_⟩
  · exact ((Sm.lst (k := 1) (n := 700000) (m := 3) (fun d hd => by
      simp only [List.mem_cons, List.not_mem_nil, or_false] at hd
      rcases hd with rfl | rfl | rfl
      · exact t1.sm
      · exact t2.sm
      · exact t3.sm) (Nat.le_refl _))).gd (by decide) (by decide)
  refine iteF ?_
  refine ⟨fsD H1, rfl, fsD H2, rfl, by show 2 ≤ _; rw [slz]; decide, fsD H2, rfl, fsD H3, rfl, by show 2 ≤ _; rw [slz]; decide, fsD H3, rfl, fsD H1, rfl, by show 2 ≤ _; rw [slz]; decide, fsD H2, rfl, fsD H2, rfl, by show 2 ≤ _; rw [slz]; decide, fsD H2, rfl, by show 2 ≤ _; rw [slz]; decide, by show 5 ≤ _; rw [slz]; decide, ?_⟩
  have cps : ∀ (i : Nat) (d : Dt), [Dt.tup [fsD H1, fsD H2], .tup [fsD H2, fsD H3], .tup [fsD H3, fsD H1], .tup [fsD H2, fsD H2], .tup [fsD [], fsD H2]][i]? = some d → ∃ A B, d = .tup [fsD A, fsD B] ∧ Tr A ∧ Tr B := fun i d h => by
    have := List.mem_of_getElem? h
    simp only [List.mem_cons, List.not_mem_nil, or_false] at this
    rcases this with rfl | rfl | rfl | rfl | rfl
    · exact ⟨_, _, rfl, t1, t2⟩
    · exact ⟨_, _, rfl, t2, t3⟩
    · exact ⟨_, _, rfl, t3, t1⟩
    · exact ⟨_, _, rfl, t2, t2⟩
    · exact ⟨_, _, rfl, t0, t2⟩
  refine ⟨fun _ ρ => ∃ a10 a11 a12 a13 a14 a15 a16, ρ = [none, some .bag, some (.d d0), some (.d (regD R)), some (.d (fsD F)), some (.d (plD L)), some (.d (plD O)), some (.d (.str (Dt.lst [regD R, fsD F, plD L]).sh)), some (.d (.lst [fsD H1, fsD H2, fsD H3])),
    some (.d (.lst [.tup [fsD H1, fsD H2], .tup [fsD H2, fsD H3], .tup [fsD H3, fsD H1], .tup [fsD H2, fsD H2], .tup [fsD [], fsD H2]])), a10, a11, a12, a13, a14, a15, a16], ⟨_, _, _, _, _, _, _, rfl⟩, ?_, ?_⟩
  · rintro i d ρ hd ⟨b10, b11, b12, b13, b14, b15, b16, rfl⟩
    obtain ⟨A, B, rfl, tA, tB⟩ := cps i d hd
    refine ⟨rfl, rfl, ?_⟩
    have lB := tB.few
    refine ⟨rfl, itemsOf (B.map (·.1)) (B.map fun p => Dt.str p.2), rfl, by rw [items_cp, List.length_map]; omega, fun es pe => ?_⟩
    rw [items_cp] at pe
    obtain ⟨S, pS, rfl⟩ := perm_map pe
    have tS : Tr S := tB.perm pS
    refine ⟨S.map fun p => (p.1, Dt.str p.2), by rw [List.map_map]; rfl, by rw [List.map_map]; exact tS.nd, ?_⟩
    have eS : Dt.dic ((S.map fun p => (p.1, Dt.str p.2)).map (·.1)) ((S.map fun p => (p.1, Dt.str p.2)).map (·.2)) = fsD S := by rw [List.map_map, List.map_map]; rfl
    conv => whnf
    rw [eS]
    refine ⟨by show 2 ≤ _; rw [slz]; decide, by show 2 ≤ _; rw [slz]; decide, by show 2 ≤ _; rw [slz]; decide, ?_⟩
    have two : ∀ (i : Nat) (d : Dt), [Dt.tup [fsD A, fsD S], .tup [fsD S, fsD A]][i]? = some d → ∃ X Y, d = .tup [fsD X, fsD Y] ∧ Tr X ∧ Tr Y := fun i d h => by
      have := List.mem_of_getElem? h
      simp only [List.mem_cons, List.not_mem_nil, or_false] at this
      rcases this with rfl | rfl
      · exact ⟨_, _, rfl, tA, tS⟩
      · exact ⟨_, _, rfl, tS, tA⟩
    refine ⟨fun _ ρ => ∃ a13 a14 a15 a16, ρ = [none, some .bag, some (.d d0), some (.d (regD R)), some (.d (fsD F)), some (.d (plD L)), some (.d (plD O)), some (.d (.str (Dt.lst [regD R, fsD F, plD L]).sh)), some (.d (.lst [fsD H1, fsD H2, fsD H3])),
      some (.d (.lst [.tup [fsD H1, fsD H2], .tup [fsD H2, fsD H3], .tup [fsD H3, fsD H1], .tup [fsD H2, fsD H2], .tup [fsD [], fsD H2]])), some (.d (fsD A)), some (.d (fsD B)), some (.d (fsD S)), a13, a14, a15, a16], ⟨_, _, _, _, rfl⟩, ?_, ?_⟩
    · rintro i d ρ hd ⟨c13, c14, c15, c16, rfl⟩
      obtain ⟨X, Y, rfl, tX, tY⟩ := two i d hd
      have lX := tX.few
      have lY := tY.few
      refine ⟨rfl, rfl, ?_⟩
      refine ⟨X, Y, rfl, tX.nd, tY.nd, by omega, by omega, fun A1 B1 oA1 oB1 => ⟨X, Y, rfl, tX.nd, tY.nd, by omega, by omega, fun A2 B2 oA2 oB2 => ?_⟩⟩
      have := Ord.one tX.nd oA1 oA2
      subst this
      have := Ord.one tY.nd oB1 oB2
      subst this
      have tA1 := tX.perm oA1.p
      have tB1 := tY.perm oB1.p
      have dl := stD_len A1 B1
      have := tA1.few
      have := tB1.few
      refine ⟨_, rfl, (deeds_sm (m := 60) (by omega) (stD_tm tA1.ft tB1.ft)).gd (by decide) (by decide), ?_⟩
      refine iteF ?_
      have same : ∀ x, getF X x = getF A1 x := fun x => (get_perm tA1.nd oA1.p x).symm
      refine ⟨X, stD A1 B1, rfl, tX.nd, by omega, stD_pd A1 B1, stD_on tA1.nd tB1.nd same, ?_⟩
      have sg := step_get (F := X) tB1.nd same
      have nZ := aft_nd tX.nd (stD A1 B1)
      have pZ : (aft X (stD A1 B1)).Perm Y := (perm_get nZ tB1.nd sg).trans oB1.p
      refine ⟨by rw [List.length_map, List.length_map, pZ.length_eq], fun x hx => ?_, ?_⟩
      · obtain ⟨c, hc⟩ := mem_keys hx
        exact ⟨.str c, lookD_fs hc, lookD_fs (by rw [← get_perm nZ pZ]; exact hc), rfl⟩
      · exact ⟨_, _, _, _, rfl⟩
    · rintro ρ ⟨c13, c14, c15, c16, rfl⟩
      exact ⟨_, _, _, _, _, _, _, rfl⟩
  · rintro ρ ⟨b10, b11, b12, b13, b14, b15, b16, rfl⟩
    refine ⟨by show 3 ≤ _; rw [slz]; decide, gd1, ?_⟩
    show if (!decide ((Dt.lst [regD R, fsD F, plD L]).sh = (Dt.lst [regD R, fsD F, plD L]).sh)) = true then _ else _
    refine iteN (by rw [decide_eq_true rfl]; decide) ?_
    exact ⟨_, _, _, _, _, _, _, _, _, _, _, _, _, _, _, rfl⟩
end VL
/-! Where the defs of the law stand. -/
namespace V66
open PySem PySem.Spec PyProof.Rows L2 TL RX VL
abbrev S_pack_of : Stmt := topS 1
abbrev S_files_of : Stmt := topS 2
abbrev S_tree_of : Stmt := topS 5
abbrev S_tree_on : Stmt := topS 6
abbrev S_steps_between : Stmt := topS 7
abbrev S__law_bag : Stmt := topS 9
abbrev S__law_take : Stmt := topS 10
abbrev S__law_one : Stmt := topS 11
abbrev S__law_mixed : Stmt := topS 12
abbrev S__law_alike : Stmt := topS 13
abbrev S__law_versions : Stmt := topS 14
abbrev S__law_number_of : Stmt := topS 15
abbrev S__law_numbers : Stmt := topS 16
abbrev S__law_tree_of : Stmt := topS 17
abbrev S__law_tree_on : Stmt := topS 18
abbrev S__law_steps : Stmt := topS 19
abbrev S__law_log_text : Stmt := topS 20
abbrev S__law_lock_text : Stmt := topS 21
abbrev S__law_small_packs : Stmt := topS 22
abbrev S__law_some_plan : Stmt := topS 23
abbrev S__law_drawn_log : Stmt := topS 24
abbrev S__law_drawn_files : Stmt := topS 25
abbrev S__law_stepped : Stmt := topS 26
abbrev S_law : Stmt := topS 27
abbrev Q_pack_of : List PySem.Str := ["registry", "name", "version"]
abbrev Q_files_of : List PySem.Str := ["pack"]
abbrev Q_tree_of : List PySem.Str := ["registry", "plan"]
abbrev Q_tree_on : List PySem.Str := ["files"]
abbrev Q_steps_between : List PySem.Str := ["old", "new"]
abbrev Q__law_bag : List PySem.Str := ["script"]
abbrev Q__law_take : List PySem.Str := ["bag", "many"]
abbrev Q__law_one : List PySem.Str := ["bag", "things"]
abbrev Q__law_mixed : List PySem.Str := ["bag", "things"]
abbrev Q__law_alike : List PySem.Str := ["found", "due"]
abbrev Q__law_versions : List PySem.Str := ["bag", "many"]
abbrev Q__law_number_of : List PySem.Str := ["path", "head"]
abbrev Q__law_numbers : List PySem.Str := ["files", "head"]
abbrev Q__law_tree_of : List PySem.Str := ["registry", "plan"]
abbrev Q__law_tree_on : List PySem.Str := ["files"]
abbrev Q__law_steps : List PySem.Str := ["old", "new"]
abbrev Q__law_log_text : List PySem.Str := ["log"]
abbrev Q__law_lock_text : List PySem.Str := ["plan"]
abbrev Q__law_small_packs : List PySem.Str := ["bag"]
abbrev Q__law_some_plan : List PySem.Str := ["bag", "registry"]
abbrev Q__law_drawn_log : List PySem.Str := ["bag", "files"]
abbrev Q__law_drawn_files : List PySem.Str := ["bag", "registry"]
abbrev Q__law_stepped : List PySem.Str := ["tree", "steps"]
abbrev Q_law : List PySem.Str := ["script"]
structure Lay (K : PySem.W.Frag) (mg : PySem.Str → Option Value) where
  a_pack_of : Addr
  fd_pack_of : FuncData
  F_pack_of : Fun K "pack_of" "pack_of" S_pack_of a_pack_of fd_pack_of
  g_pack_of : mg "pack_of" = some (.ref a_pack_of)
  b_pack_of : Binds K fd_pack_of Q_pack_of []
  a_files_of : Addr
  fd_files_of : FuncData
  F_files_of : Fun K "files_of" "files_of" S_files_of a_files_of fd_files_of
  g_files_of : mg "files_of" = some (.ref a_files_of)
  b_files_of : Binds K fd_files_of Q_files_of []
  a_tree_of : Addr
  fd_tree_of : FuncData
  F_tree_of : Fun K "tree_of" "tree_of" S_tree_of a_tree_of fd_tree_of
  g_tree_of : mg "tree_of" = some (.ref a_tree_of)
  b_tree_of : Binds K fd_tree_of Q_tree_of []
  a_tree_on : Addr
  fd_tree_on : FuncData
  F_tree_on : Fun K "tree_on" "tree_on" S_tree_on a_tree_on fd_tree_on
  g_tree_on : mg "tree_on" = some (.ref a_tree_on)
  b_tree_on : Binds K fd_tree_on Q_tree_on []
  a_steps_between : Addr
  fd_steps_between : FuncData
  F_steps_between : Fun K "steps_between" "steps_between" S_steps_between a_steps_between fd_steps_between
  g_steps_between : mg "steps_between" = some (.ref a_steps_between)
  b_steps_between : Binds K fd_steps_between Q_steps_between []
  a__law_bag : Addr
  fd__law_bag : FuncData
  F__law_bag : Fun K "_law_bag" "_law_bag" S__law_bag a__law_bag fd__law_bag
  g__law_bag : mg "_law_bag" = some (.ref a__law_bag)
  b__law_bag : Binds K fd__law_bag Q__law_bag []
  a__law_take : Addr
  fd__law_take : FuncData
  F__law_take : Fun K "_law_take" "_law_take" S__law_take a__law_take fd__law_take
  g__law_take : mg "_law_take" = some (.ref a__law_take)
  b__law_take : Binds K fd__law_take Q__law_take []
  a__law_one : Addr
  fd__law_one : FuncData
  F__law_one : Fun K "_law_one" "_law_one" S__law_one a__law_one fd__law_one
  g__law_one : mg "_law_one" = some (.ref a__law_one)
  b__law_one : Binds K fd__law_one Q__law_one []
  a__law_mixed : Addr
  fd__law_mixed : FuncData
  F__law_mixed : Fun K "_law_mixed" "_law_mixed" S__law_mixed a__law_mixed fd__law_mixed
  g__law_mixed : mg "_law_mixed" = some (.ref a__law_mixed)
  b__law_mixed : Binds K fd__law_mixed Q__law_mixed []
  a__law_alike : Addr
  fd__law_alike : FuncData
  F__law_alike : Fun K "_law_alike" "_law_alike" S__law_alike a__law_alike fd__law_alike
  g__law_alike : mg "_law_alike" = some (.ref a__law_alike)
  b__law_alike : Binds K fd__law_alike Q__law_alike []
  a__law_versions : Addr
  fd__law_versions : FuncData
  F__law_versions : Fun K "_law_versions" "_law_versions" S__law_versions a__law_versions fd__law_versions
  g__law_versions : mg "_law_versions" = some (.ref a__law_versions)
  b__law_versions : Binds K fd__law_versions Q__law_versions []
  a__law_number_of : Addr
  fd__law_number_of : FuncData
  F__law_number_of : Fun K "_law_number_of" "_law_number_of" S__law_number_of a__law_number_of fd__law_number_of
  g__law_number_of : mg "_law_number_of" = some (.ref a__law_number_of)
  b__law_number_of : Binds K fd__law_number_of Q__law_number_of []
  a__law_numbers : Addr
  fd__law_numbers : FuncData
  F__law_numbers : Fun K "_law_numbers" "_law_numbers" S__law_numbers a__law_numbers fd__law_numbers
  g__law_numbers : mg "_law_numbers" = some (.ref a__law_numbers)
  b__law_numbers : Binds K fd__law_numbers Q__law_numbers []
  a__law_tree_of : Addr
  fd__law_tree_of : FuncData
  F__law_tree_of : Fun K "_law_tree_of" "_law_tree_of" S__law_tree_of a__law_tree_of fd__law_tree_of
  g__law_tree_of : mg "_law_tree_of" = some (.ref a__law_tree_of)
  b__law_tree_of : Binds K fd__law_tree_of Q__law_tree_of []
  a__law_tree_on : Addr
  fd__law_tree_on : FuncData
  F__law_tree_on : Fun K "_law_tree_on" "_law_tree_on" S__law_tree_on a__law_tree_on fd__law_tree_on
  g__law_tree_on : mg "_law_tree_on" = some (.ref a__law_tree_on)
  b__law_tree_on : Binds K fd__law_tree_on Q__law_tree_on []
  a__law_steps : Addr
  fd__law_steps : FuncData
  F__law_steps : Fun K "_law_steps" "_law_steps" S__law_steps a__law_steps fd__law_steps
  g__law_steps : mg "_law_steps" = some (.ref a__law_steps)
  b__law_steps : Binds K fd__law_steps Q__law_steps []
  a__law_log_text : Addr
  fd__law_log_text : FuncData
  F__law_log_text : Fun K "_law_log_text" "_law_log_text" S__law_log_text a__law_log_text fd__law_log_text
  g__law_log_text : mg "_law_log_text" = some (.ref a__law_log_text)
  b__law_log_text : Binds K fd__law_log_text Q__law_log_text []
  a__law_lock_text : Addr
  fd__law_lock_text : FuncData
  F__law_lock_text : Fun K "_law_lock_text" "_law_lock_text" S__law_lock_text a__law_lock_text fd__law_lock_text
  g__law_lock_text : mg "_law_lock_text" = some (.ref a__law_lock_text)
  b__law_lock_text : Binds K fd__law_lock_text Q__law_lock_text []
  a__law_small_packs : Addr
  fd__law_small_packs : FuncData
  F__law_small_packs : Fun K "_law_small_packs" "_law_small_packs" S__law_small_packs a__law_small_packs fd__law_small_packs
  g__law_small_packs : mg "_law_small_packs" = some (.ref a__law_small_packs)
  b__law_small_packs : Binds K fd__law_small_packs Q__law_small_packs []
  a__law_some_plan : Addr
  fd__law_some_plan : FuncData
  F__law_some_plan : Fun K "_law_some_plan" "_law_some_plan" S__law_some_plan a__law_some_plan fd__law_some_plan
  g__law_some_plan : mg "_law_some_plan" = some (.ref a__law_some_plan)
  b__law_some_plan : Binds K fd__law_some_plan Q__law_some_plan []
  a__law_drawn_log : Addr
  fd__law_drawn_log : FuncData
  F__law_drawn_log : Fun K "_law_drawn_log" "_law_drawn_log" S__law_drawn_log a__law_drawn_log fd__law_drawn_log
  g__law_drawn_log : mg "_law_drawn_log" = some (.ref a__law_drawn_log)
  b__law_drawn_log : Binds K fd__law_drawn_log Q__law_drawn_log []
  a__law_drawn_files : Addr
  fd__law_drawn_files : FuncData
  F__law_drawn_files : Fun K "_law_drawn_files" "_law_drawn_files" S__law_drawn_files a__law_drawn_files fd__law_drawn_files
  g__law_drawn_files : mg "_law_drawn_files" = some (.ref a__law_drawn_files)
  b__law_drawn_files : Binds K fd__law_drawn_files Q__law_drawn_files []
  a__law_stepped : Addr
  fd__law_stepped : FuncData
  F__law_stepped : Fun K "_law_stepped" "_law_stepped" S__law_stepped a__law_stepped fd__law_stepped
  g__law_stepped : mg "_law_stepped" = some (.ref a__law_stepped)
  b__law_stepped : Binds K fd__law_stepped Q__law_stepped []
  a_law : Addr
  fd_law : FuncData
  F_law : Fun K "law" "law" S_law a_law fd_law
  g_law : mg "law" = some (.ref a_law)
  b_law : Binds K fd_law Q_law []
  m_len : mg "len" = none
  m_str : mg "str" = none
  m_int : mg "int" = none
  m_tuple : mg "tuple" = none
  m_list : mg "list" = none
  m_dict : mg "dict" = none
  m_repr : mg "repr" = none
  m_sorted : mg "sorted" = none
  m_set : mg "set" = none
  m_range : mg "range" = none
  m_abs : mg "abs" = none
  m_reversed : mg "reversed" = none
  t_TREE : Tok
  c_TREE : mg "TREE" = some (.str "tree/" t_TREE)
section
variable {P : Program} {w : World} {K : PySem.W.Frag} {mg : PySem.Str → Option Value} {base : Heap}
theorem ok__law_take (L : Lay K mg) : Ok0 P w K mg base 1 L.a__law_take L.fd__law_take P__law_take (vsp false sp__law_take) := by
  refine ok_old (ok_take (k := 0) L.F__law_take L.m_int) fun vs H Q E h => ?_
  obtain ⟨g, as, M, c, p, ⟨many, rfl, m0, m1, q⟩, z⟩ := h
  cases p with
  | cons p1 p2 => cases p2 with
    | cons p2 p3 =>
      cases p3
      exact ⟨g.b, many, by rw [show _ = V.ref g.b from p1, (show Rp g H _ (.int many) from p2).int_inv], c.bag, m0, m1, fun H' v ch bg h0 h1 => z _ _ H' (q v h0 h1) ⟨⟨ch, bg⟩, .int v⟩⟩
end
end V66
/-! Defs of the law: their derivations. -/
namespace V66
open PySem PySem.Spec PyProof.Rows L2 TL RX VL
section
variable {P : Program} {w : World} {K : PySem.W.Frag} {mg : PySem.Str → Option Value} {base : Heap}
theorem sc_pack_of : FnScope N_pack_of P_pack_of (defScope S_pack_of) := ⟨rfl, rfl, rfl, by decide +kernel, rfl, by decide +kernel, by decide +kernel⟩
theorem ok_pack_of (L : Lay K mg) : Ok0 P w K mg base 1 L.a_pack_of L.fd_pack_of P_pack_of (vsp false sp_pack_of) := by
  refine vfn (k := 0) L.F_pack_of sc_pack_of (fun as M h => len_pack_of h) (fun cdv A outer s H E hg hr => ?_)
  have h1 := hu1 hr; have h64 := hu64 hr; have h65 := hu65 hr
  exact ⟨T_pack_of, (vss_cons (vs_for PassesOwn.never rfl (vi_seq (ve_ix (vix h64) (vc_v 0) (vec ve_int) (fun _ _ => rfl))) (vg_name (i := 3) sc_pack_of.nd rfl (by first | exact Or.inl rfl | exact Or.inr rfl))
  (vss_one (vs_if (vt_cmp (vop_eq h64) (vec (ve_slice (vc_v 3) vo_none (vo_some ve_int))) (vec (ve_tup (vl_cons (ve_v 1) (vl_cons (ve_v 2) vl_nil)))) (nomark _))
  (vss_one (vs_ret (ve_v 3)))
  vss_nil)))
  (vss_one (vs_ret ve_non))), fun as M h => t_pack_of h⟩
theorem sc_files_of : FnScope N_files_of P_files_of (defScope S_files_of) := ⟨rfl, rfl, rfl, by decide +kernel, rfl, by decide +kernel, by decide +kernel⟩
theorem ok_files_of (L : Lay K mg) : Ok0 P w K mg base 1 L.a_files_of L.fd_files_of P_files_of (vsp true sp_files_of) := by
  refine vfn (k := 0) L.F_files_of sc_files_of (fun as M h => len_files_of h) (fun cdv A outer s H E hg hr => ?_)
  have h1 := hu1 hr; have h64 := hu64 hr; have h65 := hu65 hr
  exact ⟨T_files_of, (vss_one (vs_retF (vf_callT (vcallF_pairs rfl) (by rfl) L.m_dict (by decide +kernel) (vk_cons (vec (ve_ix (vix h64) (vc_v 0) (vec ve_int) (fun _ _ => rfl))) vk_nil)))), fun as M h => t_files_of h⟩
theorem sc_tree_on : FnScope N_tree_on P_tree_on (defScope S_tree_on) := ⟨rfl, rfl, rfl, by decide +kernel, rfl, by decide +kernel, by decide +kernel⟩
theorem ok_tree_on (L : Lay K mg) : Ok0 P w K mg base 1 L.a_tree_on L.fd_tree_on P_tree_on (vsp true sp_tree_on) := by
  refine vfn (k := 0) L.F_tree_on sc_tree_on (fun as M h => len_tree_on h) (fun cdv A outer s H E hg hr => ?_)
  have h1 := hu1 hr; have h64 := hu64 hr; have h65 := hu65 hr
  exact ⟨T_tree_on, (vss_one (vs_retF (vf_dc (own := [("path", 1)]) rfl sc_tree_on.nd (vi_seq (vfe (vf_callB (vcallF_sortedK rfl) (by rfl) L.m_sorted (by decide +kernel) (vk_cons (vc_v 0) vk_nil)))) (blkOk_by (N := N_tree_on) (sc := defScope S_tree_on) (own := [("path", 1)]) (by decide +kernel)) (fun _ _ _ _ _ => (vg_name (i := 1) sc_tree_on.nd rfl (by first | exact Or.inl rfl | exact Or.inr rfl))) (fun _ _ _ _ _ => (vts_one (vt_val (ve_bm PySem.F.plainAttrs_str PySem.F.slot_str_startswith PySem.F.type_str_startswith vmt_startswith (vc_v 1) (vk_cons (vec (ve_globS (by rfl) L.c_TREE)) vk_nil))))) (fun _ _ _ _ _ => (ve_bm PySem.F.plainAttrs_str PySem.F.slot_str_removeprefix PySem.F.type_str_removeprefix vmt_removeprefix (vc_v 1) (vk_cons (vec (ve_globS (by rfl) L.c_TREE)) vk_nil))) (fun _ _ _ _ _ => (ve_ix (vix h64) (vc_v 0) (vc_v 1) (fun _ _ => rfl)))))), fun as M h => t_tree_on h⟩
theorem sc_steps_between : FnScope N_steps_between P_steps_between (defScope S_steps_between) := ⟨rfl, rfl, rfl, by decide +kernel, rfl, by decide +kernel, by decide +kernel⟩
theorem ok_steps_between (L : Lay K mg) : Ok0 P w K mg base 1 L.a_steps_between L.fd_steps_between P_steps_between (vsp true sp_steps_between) := by
  refine vfn (k := 0) L.F_steps_between sc_steps_between (fun as M h => len_steps_between h) (fun cdv A outer s H E hg hr => ?_)
  have h1 := hu1 hr; have h64 := hu64 hr; have h65 := hu65 hr
  exact ⟨T_steps_between, (vss_cons (vs_setLc (i := 2) (own := [("path", 3)]) rfl sc_steps_between.nd rfl rfl (sw_true rfl rfl rfl (by decide +kernel)) (vi_rev (by rfl) L.m_reversed (vfe (vf_callB (vcallF_sortedK rfl) (by rfl) L.m_sorted (by decide +kernel) (vk_cons (vc_v 0) vk_nil)))) (blkOk_by (N := N_steps_between) (sc := defScope S_steps_between) (own := [("path", 3)]) (by decide +kernel)) (fun _ _ _ _ _ => (vg_name (i := 3) sc_steps_between.nd rfl (by first | exact Or.inl rfl | exact Or.inr rfl))) (fun _ _ _ _ _ => (vts_one (vt_cmp (vop_notIn h65) (vc_v 3) (vc_v 1) rfl))) (fun _ _ _ _ _ => (ve_tup (vl_cons ve_str (vl_cons (ve_v 3) vl_nil)))))
  (vss_one (vs_retF (vf_op vopF_cat (vc_v 2) (vec (vfe (vf_lc (own := [("path", 3)]) rfl sc_steps_between.nd (vi_seq (vfe (vf_callB (vcallF_sortedK rfl) (by rfl) L.m_sorted (by decide +kernel) (vk_cons (vc_v 1) vk_nil)))) (blkOk_by (N := N_steps_between) (sc := defScope S_steps_between) (own := [("path", 3)]) (by decide +kernel)) (fun _ _ _ _ _ => (vg_name (i := 3) sc_steps_between.nd rfl (by first | exact Or.inl rfl | exact Or.inr rfl))) (fun _ _ _ _ _ => (vts_one (vwt (vw_or (vt_cmp (vop_notIn h65) (vc_v 3) (vc_v 0) rfl) (vw_or1 (vt_cmp (vop_ne h64) (vec (ve_ix (vix h64) (vc_v 0) (vc_v 3) (fun _ _ => rfl))) (vec (ve_ix (vix h64) (vc_v 1) (vc_v 3) (fun _ _ => rfl))) (nomark _))))))) (fun _ _ _ _ _ => (ve_tup (vl_cons ve_str (vl_cons (ve_v 3) (vl_cons (ve_ix (vix h64) (vc_v 1) (vc_v 3) (fun _ _ => rfl)) vl_nil)))))))))))), fun as M h => t_steps_between h⟩
theorem sc__law_alike : FnScope N__law_alike P__law_alike (defScope S__law_alike) := ⟨rfl, rfl, rfl, by decide +kernel, rfl, by decide +kernel, by decide +kernel⟩
theorem ok__law_alike (L : Lay K mg) : Ok0 P w K mg base 1 L.a__law_alike L.fd__law_alike P__law_alike (vsp false sp__law_alike) := by
  refine vfn (k := 0) L.F__law_alike sc__law_alike (fun as M h => len__law_alike h) (fun cdv A outer s H E hg hr => ?_)
  have h1 := hu1 hr; have h64 := hu64 hr; have h65 := hu65 hr
  exact ⟨T__law_alike, (vss_one (vs_ret (ve_and (ve_cmp (vop_eqS h64) (vc_v 0) (vc_v 1) (nomark _)) (ve_and1 (ve_cmp (vop_eqS h64) (vec (ve_callB (vcall_repr hg h64) (by rfl) L.m_repr (by decide +kernel) (vk_cons (vc_v 0) vk_nil))) (vec (ve_callB (vcall_repr hg h64) (by rfl) L.m_repr (by decide +kernel) (vk_cons (vc_v 1) vk_nil))) (nomark _)))))), fun as M h => t__law_alike h⟩
theorem sc__law_number_of : FnScope N__law_number_of P__law_number_of (defScope S__law_number_of) := ⟨rfl, rfl, rfl, by decide +kernel, rfl, by decide +kernel, by decide +kernel⟩
theorem ok__law_number_of (L : Lay K mg) : Ok0 P w K mg base 1 L.a__law_number_of L.fd__law_number_of P__law_number_of (vsp false sp__law_number_of) := by
  refine vfn (k := 0) L.F__law_number_of sc__law_number_of (fun as M h => len__law_number_of h) (fun cdv A outer s H E hg hr => ?_)
  have h1 := hu1 hr; have h64 := hu64 hr; have h65 := hu65 hr
  exact ⟨T__law_number_of, (vss_cons (vs_set (i := 2) sc__law_number_of.nd rfl (by first | exact Or.inl rfl | exact Or.inr rfl) (ve_slice (vc_v 0) (vo_some (ve_callB vcall_len (by rfl) L.m_len (by decide +kernel) (vk_cons (vc_v 1) vk_nil))) vo_none))
  (vss_cons (vs_if (vwt (vw_or (vt_cmp (vop_ne h64) (vec (ve_slice (vc_v 0) vo_none (vo_some (ve_callB vcall_len (by rfl) L.m_len (by decide +kernel) (vk_cons (vc_v 1) vk_nil))))) (vc_v 1) (nomark _)) (vw_or (vt_cmp (vop_eq h64) (vc_v 2) (vec ve_str) (nomark _)) (vw_or1 (vt_cmp (vop_ne h64) (vec (vfe (vf_lc (own := [("sign", 3)]) rfl sc__law_number_of.nd (vi_seq (ve_v 2)) (blkOk_by (N := N__law_number_of) (sc := defScope S__law_number_of) (own := [("sign", 3)]) (by decide +kernel)) (fun _ _ _ _ _ => (vg_name (i := 3) sc__law_number_of.nd rfl (by first | exact Or.inl rfl | exact Or.inr rfl))) (fun _ _ _ _ _ => (vts_one (vt_cmp (vop_notIn h65) (vc_v 3) (vec ve_str) rfl))) (fun _ _ _ _ _ => (ve_v 3))))) (vec (vfe (vf_lst vl_nil))) (nomark _))))))
  (vss_one (vs_ret ve_non))
  vss_nil)
  (vss_one (vs_ret (ve_ifE (vt_cmp (vop_eq h64) (vec (ve_callT vcall_str (by rfl) L.m_str (by decide +kernel) (vk_cons (vec (ve_callT vcall_int (by rfl) L.m_int (by decide +kernel) (vk_cons (vc_v 2) vk_nil))) vk_nil))) (vc_v 2) (nomark _)) (ve_callT vcall_int (by rfl) L.m_int (by decide +kernel) (vk_cons (vc_v 2) vk_nil)) ve_non))))), fun as M h => t__law_number_of h⟩
theorem sc__law_tree_of : FnScope N__law_tree_of P__law_tree_of (defScope S__law_tree_of) := ⟨rfl, rfl, rfl, by decide +kernel, rfl, by decide +kernel, by decide +kernel⟩
theorem ok__law_tree_of (L : Lay K mg) : Ok0 P w K mg base 1 L.a__law_tree_of L.fd__law_tree_of P__law_tree_of (vsp true sp__law_tree_of) := by
  refine vfn (k := 0) L.F__law_tree_of sc__law_tree_of (fun as M h => len__law_tree_of h) (fun cdv A outer s H E hg hr => ?_)
  have h1 := hu1 hr; have h64 := hu64 hr; have h65 := hu65 hr
  exact ⟨T__law_tree_of, (vss_cons (vs_setO (i := 2) sc__law_tree_of.nd rfl (by first | exact Or.inl rfl | exact Or.inr rfl) vf_dnew)
  (vss_cons (vs_for PassesOwn.never rfl (vi_seq (ve_ix (vix h64) (vc_v 0) (vec ve_int) (fun _ _ => rfl))) (vg_name (i := 3) sc__law_tree_of.nd rfl (by first | exact Or.inl rfl | exact Or.inr rfl))
  (vss_one (vs_if (vwt (vw_and (vt_cmp (vop_in h65) (vec (ve_ix (vix h64) (vc_v 3) (vec ve_int) (fun _ _ => rfl))) (vc_v 1) rfl) (vw_and1 (vt_cmp (vop_eq h64) (vec (ve_ix (vix h64) (vec (ve_ix (vix h64) (vc_v 1) (vec (ve_ix (vix h64) (vc_v 3) (vec ve_int) (fun _ _ => rfl))) (fun _ _ => rfl))) (vec ve_int) (fun _ _ => rfl))) (vec (ve_ix (vix h64) (vc_v 3) (vec ve_int) (fun _ _ => rfl))) (nomark _)))))
  (vss_one (vs_for PassesOwn.never rfl (vi_seq (ve_ix (vix h64) (vc_v 3) (vec ve_int) (fun _ _ => rfl))) (vg_tup rfl (vgs_cons (vg_name (i := 4) sc__law_tree_of.nd rfl (by first | exact Or.inl rfl | exact Or.inr rfl)) (vgs_cons (vg_name (i := 5) sc__law_tree_of.nd rfl (by first | exact Or.inl rfl | exact Or.inr rfl)) vgs_nil)))
  (vss_one (vs_put (i := 2) h1 rfl (by first | exact Or.inl rfl | exact Or.inr (Or.inl rfl) | exact Or.inr (Or.inr rfl)) (ve_v 4) (ve_v 5)))))
  vss_nil)))
  (vss_one (vs_retF (vf_callT (vcallF_pairs rfl) (by rfl) L.m_dict (by decide +kernel) (vk_cons (vec (vfe (vf_sortItems rfl (by rfl) L.m_sorted (by decide +kernel) (vc_v 2)))) vk_nil)))))), fun as M h => t__law_tree_of h⟩
end
end V66
/-! Defs of the law: their derivations. -/
namespace V66
open PySem PySem.Spec PyProof.Rows L2 TL RX VL
section
variable {P : Program} {w : World} {K : PySem.W.Frag} {mg : PySem.Str → Option Value} {base : Heap}
theorem sc__law_tree_on : FnScope N__law_tree_on P__law_tree_on (defScope S__law_tree_on) := ⟨rfl, rfl, rfl, by decide +kernel, rfl, by decide +kernel, by decide +kernel⟩
theorem ok__law_tree_on (L : Lay K mg) : Ok0 P w K mg base 1 L.a__law_tree_on L.fd__law_tree_on P__law_tree_on (vsp true sp__law_tree_on) := by
  refine vfn (k := 0) L.F__law_tree_on sc__law_tree_on (fun as M h => len__law_tree_on h) (fun cdv A outer s H E hg hr => ?_)
  have h1 := hu1 hr; have h64 := hu64 hr; have h65 := hu65 hr
  exact ⟨T__law_tree_on, (vss_one (vs_retF (vf_callT (vcallF_pairs rfl) (by rfl) L.m_dict (by decide +kernel) (vk_cons (vec (vfe (vf_callB (vcallF_sortedP rfl) (by rfl) L.m_sorted (by decide +kernel) (vk_cons (vec (vfe (vf_lcK (own := [("path", 1)]) rfl sc__law_tree_on.nd (i := 0) rfl (by first | exact Or.inl rfl | exact Or.inr (Or.inl rfl) | exact Or.inr (Or.inr rfl)) (blkOk_by (N := N__law_tree_on) (sc := defScope S__law_tree_on) (own := [("path", 1)]) (by decide +kernel)) (fun _ _ _ _ _ => (vg_name (i := 1) sc__law_tree_on.nd rfl (by first | exact Or.inl rfl | exact Or.inr rfl))) (fun _ _ _ _ _ => (vts_one (vt_cmp (vop_eq h64) (vec (ve_slice (vc_v 1) vo_none (vo_some ve_int))) (vec ve_str) (nomark _)))) (fun _ _ _ _ _ => (ve_tup (vl_cons (ve_slice (vc_v 1) (vo_some ve_int) vo_none) (vl_cons (ve_ix (vix h64) (vc_v 0) (vc_v 1) (fun _ _ => rfl)) vl_nil))))))) vk_nil)))) vk_nil)))), fun as M h => t__law_tree_on h⟩
theorem sc__law_steps : FnScope N__law_steps P__law_steps (defScope S__law_steps) := ⟨rfl, rfl, rfl, by decide +kernel, rfl, by decide +kernel, by decide +kernel⟩
theorem ok__law_steps (L : Lay K mg) : Ok0 P w K mg base 1 L.a__law_steps L.fd__law_steps P__law_steps (vsp true sp__law_steps) := by
  refine vfn (k := 0) L.F__law_steps sc__law_steps (fun as M h => len__law_steps h) (fun cdv A outer s H E hg hr => ?_)
  have h1 := hu1 hr; have h64 := hu64 hr; have h65 := hu65 hr
  exact ⟨T__law_steps, (vss_cons (vs_setLc (i := 2) (own := [("path", 3)]) rfl sc__law_steps.nd rfl rfl (sw_true rfl rfl rfl (by decide +kernel)) (vi_seq (vfe (vf_rev (vec (vfe (vf_callB (vcallF_sortedK rfl) (by rfl) L.m_sorted (by decide +kernel) (vk_cons (vc_v 0) vk_nil))))))) (blkOk_by (N := N__law_steps) (sc := defScope S__law_steps) (own := [("path", 3)]) (by decide +kernel)) (fun _ _ _ _ _ => (vg_name (i := 3) sc__law_steps.nd rfl (by first | exact Or.inl rfl | exact Or.inr rfl))) (fun _ _ _ _ _ => (vts_one (vt_cmp (vop_notIn h65) (vc_v 3) (vc_v 1) rfl))) (fun _ _ _ _ _ => (ve_tup (vl_cons ve_str (vl_cons (ve_v 3) vl_nil)))))
  (vss_one (vs_retF (vf_op vopF_cat (vc_v 2) (vec (vfe (vf_lc (own := [("path", 3)]) rfl sc__law_steps.nd (vi_seq (vfe (vf_callB (vcallF_sortedK rfl) (by rfl) L.m_sorted (by decide +kernel) (vk_cons (vc_v 1) vk_nil)))) (blkOk_by (N := N__law_steps) (sc := defScope S__law_steps) (own := [("path", 3)]) (by decide +kernel)) (fun _ _ _ _ _ => (vg_name (i := 3) sc__law_steps.nd rfl (by first | exact Or.inl rfl | exact Or.inr rfl))) (fun _ _ _ _ _ => (vts_one (vwt (vw_or (vt_cmp (vop_notIn h65) (vc_v 3) (vc_v 0) rfl) (vw_or1 (vt_cmp (vop_ne h64) (vec (ve_ix (vix h64) (vc_v 0) (vc_v 3) (fun _ _ => rfl))) (vec (ve_ix (vix h64) (vc_v 1) (vc_v 3) (fun _ _ => rfl))) (nomark _))))))) (fun _ _ _ _ _ => (ve_tup (vl_cons ve_str (vl_cons (ve_v 3) (vl_cons (ve_ix (vix h64) (vc_v 1) (vc_v 3) (fun _ _ => rfl)) vl_nil)))))))))))), fun as M h => t__law_steps h⟩
theorem sc__law_log_text : FnScope N__law_log_text P__law_log_text (defScope S__law_log_text) := ⟨rfl, rfl, rfl, by decide +kernel, rfl, by decide +kernel, by decide +kernel⟩
theorem ok__law_log_text (L : Lay K mg) : Ok0 P w K mg base 1 L.a__law_log_text L.fd__law_log_text P__law_log_text (vsp false sp__law_log_text) := by
  refine vfn (k := 0) L.F__law_log_text sc__law_log_text (fun as M h => len__law_log_text h) (fun cdv A outer s H E hg hr => ?_)
  have h1 := hu1 hr; have h64 := hu64 hr; have h65 := hu65 hr
  exact ⟨T__law_log_text, (vss_cons (vs_set (i := 1) sc__law_log_text.nd rfl (by first | exact Or.inl rfl | exact Or.inr rfl) (ve_op vop_add (vec (vfe (vf_lst (vl_cons (ve_op vop_add (vec ve_str) (vec (ve_callT vcall_str (by rfl) L.m_str (by decide +kernel) (vk_cons (vec (ve_callB vcall_len (by rfl) L.m_len (by decide +kernel) (vk_cons (vec (ve_ix (vix h64) (vc_v 0) (vec ve_int) (fun _ _ => rfl))) vk_nil))) vk_nil)))) vl_nil)))) (vec (vfe (vf_lc (own := [("step", 2)]) rfl sc__law_log_text.nd (vi_seq (ve_ix (vix h64) (vc_v 0) (vec ve_int) (fun _ _ => rfl))) (blkOk_by (N := N__law_log_text) (sc := defScope S__law_log_text) (own := [("step", 2)]) (by decide +kernel)) (fun _ _ _ _ _ => (vg_name (i := 2) sc__law_log_text.nd rfl (by first | exact Or.inl rfl | exact Or.inr rfl))) (fun _ _ _ _ _ => vts_nil) (fun _ _ _ _ _ => (ve_bm PySem.F.plainAttrs_str PySem.F.slot_str_join PySem.F.type_str_join vmt_join (vec ve_str) (vk_cons (vc_v 2) vk_nil))))))))
  (vss_one (vs_ret (ve_bm PySem.F.plainAttrs_str PySem.F.slot_str_join PySem.F.type_str_join vmt_join (vec ve_str) (vk_cons (vec (ve_op vop_add (vc_v 1) (vec (vfe (vf_lst (vl_cons (ve_op vop_add (vec ve_str) (vec (ve_ix (vix h64) (vc_v 0) (vec ve_int) (fun _ _ => rfl)))) vl_nil)))))) vk_nil))))), fun as M h => t__law_log_text h⟩
theorem sc__law_lock_text : FnScope N__law_lock_text P__law_lock_text (defScope S__law_lock_text) := ⟨rfl, rfl, rfl, by decide +kernel, rfl, by decide +kernel, by decide +kernel⟩
theorem ok__law_lock_text (L : Lay K mg) : Ok0 P w K mg base 1 L.a__law_lock_text L.fd__law_lock_text P__law_lock_text (vsp false sp__law_lock_text) := by
  refine vfn (k := 0) L.F__law_lock_text sc__law_lock_text (fun as M h => len__law_lock_text h) (fun cdv A outer s H E hg hr => ?_)
  have h1 := hu1 hr; have h64 := hu64 hr; have h65 := hu65 hr
  exact ⟨T__law_lock_text, (vss_cons (vs_setO (i := 1) sc__law_lock_text.nd rfl (by first | exact Or.inl rfl | exact Or.inr rfl) (vf_lst vl_nil))
  (vss_cons (vs_for PassesOwn.never rfl (vi_seq (vfe (vf_callB (vcallF_sortedK rfl) (by rfl) L.m_sorted (by decide +kernel) (vk_cons (vc_v 0) vk_nil)))) (vg_name (i := 2) sc__law_lock_text.nd rfl (by first | exact Or.inl rfl | exact Or.inr rfl))
  (vss_cons (vs_asg (ve_ix (vix h64) (vc_v 0) (vc_v 2) (fun _ _ => rfl)) (vg_tup rfl (vgs_cons (vg_name (i := 3) sc__law_lock_text.nd rfl (by first | exact Or.inl rfl | exact Or.inr rfl)) (vgs_cons (vg_name (i := 4) sc__law_lock_text.nd rfl (by first | exact Or.inl rfl | exact Or.inr rfl)) vgs_nil))))
  (vss_cons (vs_set (i := 5) sc__law_lock_text.nd rfl (by first | exact Or.inl rfl | exact Or.inr rfl) (vfe (vf_lst (vl_cons ve_str (vl_cons (ve_v 2) (vl_cons (ve_bm PySem.F.plainAttrs_str PySem.F.slot_str_join PySem.F.type_str_join vmt_join (vec ve_str) (vk_cons (vec (vfe (vf_lc (own := [("part", 6)]) rfl sc__law_lock_text.nd (vi_seq (ve_v 3)) (blkOk_by (N := N__law_lock_text) (sc := defScope S__law_lock_text) (own := [("part", 6)]) (by decide +kernel)) (fun _ _ _ _ _ => (vg_name (i := 6) sc__law_lock_text.nd rfl (by first | exact Or.inl rfl | exact Or.inr rfl))) (fun _ _ _ _ _ => vts_nil) (fun _ _ _ _ _ => (ve_callT vcall_str (by rfl) L.m_str (by decide +kernel) (vk_cons (vc_v 6) vk_nil)))))) vk_nil)) vl_nil))))))
  (vss_one (vs_mu (i := 1) rfl (by first | exact Or.inl rfl | exact Or.inr (Or.inl rfl) | exact Or.inr (Or.inr rfl)) PySem.F.plainAttrs_list PySem.F.slot_list_append PySem.F.type_list_append vmu_append (vl_cons (ve_bm PySem.F.plainAttrs_str PySem.F.slot_str_join PySem.F.type_str_join vmt_join (vec ve_str) (vk_cons (vec (ve_op vop_add (vc_v 5) (vec (ve_ifE (vt_cmp (vop_ne h64) (vc_v 4) (vec (ve_tup vl_nil)) (nomark _)) (ve_op vop_add (vec (vfe (vf_lst (vl_cons ve_str (vl_cons ve_str vl_nil))))) (vec (vfe (vf_callT (vcallF_list rfl) (by rfl) L.m_list (by decide +kernel) (vk_cons (vc_v 4) vk_nil))))) (vfe (vf_lst vl_nil)))))) vk_nil)) vl_nil))))))
  (vss_one (vs_ret (ve_bm PySem.F.plainAttrs_str PySem.F.slot_str_join PySem.F.type_str_join vmt_join (vec ve_str) (vk_cons (vc_v 1) vk_nil)))))), fun as M h => t__law_lock_text h⟩
theorem sc__law_stepped : FnScope N__law_stepped P__law_stepped (defScope S__law_stepped) := ⟨rfl, rfl, rfl, by decide +kernel, rfl, by decide +kernel, by decide +kernel⟩
theorem ok__law_stepped (L : Lay K mg) : Ok0 P w K mg base 1 L.a__law_stepped L.fd__law_stepped P__law_stepped (vsp true sp__law_stepped) := by
  refine vfn (k := 0) L.F__law_stepped sc__law_stepped (fun as M h => len__law_stepped h) (fun cdv A outer s H E hg hr => ?_)
  have h1 := hu1 hr; have h64 := hu64 hr; have h65 := hu65 hr
  exact ⟨T__law_stepped, (vss_cons (vs_setO (i := 0) sc__law_stepped.nd rfl (by first | exact Or.inl rfl | exact Or.inr rfl) (vf_callT vcallF_dict (by rfl) L.m_dict (by decide +kernel) (vk_cons (vc_v 0) vk_nil)))
  (vss_cons (vs_for PassesOwn.never rfl (vi_seq (ve_v 1)) (vg_name (i := 2) sc__law_stepped.nd rfl (by first | exact Or.inl rfl | exact Or.inr rfl))
  (vss_one (vs_if (vt_cmp (vop_eq h64) (vec (ve_ix (vix h64) (vc_v 2) (vec ve_int) (fun _ _ => rfl))) (vec ve_str) (nomark _))
  (vss_one (vs_mu (i := 0) rfl (by first | exact Or.inl rfl | exact Or.inr (Or.inl rfl) | exact Or.inr (Or.inr rfl)) PySem.F.plainAttrs_dict PySem.F.slot_dict_pop PySem.F.type_dict_pop vmu_dpop (vl_cons (ve_ix (vix h64) (vc_v 2) (vec ve_int) (fun _ _ => rfl)) vl_nil)))
  (vss_one (vs_put (i := 0) h1 rfl (by first | exact Or.inl rfl | exact Or.inr (Or.inl rfl) | exact Or.inr (Or.inr rfl)) (ve_ix (vix h64) (vc_v 2) (vec ve_int) (fun _ _ => rfl)) (ve_ix (vix h64) (vc_v 2) (vec ve_int) (fun _ _ => rfl)))))))
  (vss_one (vs_retV (i := 0) rfl (by first | exact Or.inl rfl | exact Or.inr (Or.inl rfl) | exact Or.inr (Or.inr rfl)))))), fun as M h => t__law_stepped h⟩
theorem sc_tree_of : FnScope N_tree_of P_tree_of (defScope S_tree_of) := ⟨rfl, rfl, rfl, by decide +kernel, rfl, by decide +kernel, by decide +kernel⟩
theorem ok_tree_of (L : Lay K mg) : Ok0 P w K mg base 2 L.a_tree_of L.fd_tree_of P_tree_of (vsp true sp_tree_of) := by
  refine vfn (k := 1) L.F_tree_of sc_tree_of (fun as M h => len_tree_of h) (fun cdv A outer s H E hg hr => ?_)
  have h1 := hu1 hr; have h64 := hu64 hr; have h65 := hu65 hr
  exact ⟨T_tree_of, (vss_cons (vs_setO (i := 2) sc_tree_of.nd rfl (by first | exact Or.inl rfl | exact Or.inr rfl) vf_dnew)
  (vss_cons (vs_for PassesOwn.never rfl (vi_seq (vfe (vf_callB (vcallF_sortedK rfl) (by rfl) L.m_sorted (by decide +kernel) (vk_cons (vc_v 1) vk_nil)))) (vg_name (i := 3) sc_tree_of.nd rfl (by first | exact Or.inl rfl | exact Or.inr rfl))
  (vss_one (vs_mu (i := 2) rfl (by first | exact Or.inl rfl | exact Or.inr (Or.inl rfl) | exact Or.inr (Or.inr rfl)) PySem.F.plainAttrs_dict PySem.F.slot_dict_update PySem.F.type_dict_update vmu_update (vl_cons (vfe (vf_call (ok_files_of L) hg (hr.mono (by decide)) (by rfl) L.g_files_of L.F_files_of.kp L.b_files_of (va_d (ve_call (ok_pack_of L) hg (hr.mono (by decide)) (by rfl) L.g_pack_of L.F_pack_of.kp L.b_pack_of (va_d (ve_v 0) (va_d (ve_v 3) (va_d (ve_ix (vix h64) (vec (ve_ix (vix h64) (vc_v 1) (vc_v 3) (fun _ _ => rfl))) (vec ve_int) (fun _ _ => rfl)) va_nil)))) va_nil))) vl_nil))))
  (vss_one (vs_retF (vf_dc (own := [("path", 4)]) rfl sc_tree_of.nd (vi_seq (vfe (vf_callB (vcallF_sortedK rfl) (by rfl) L.m_sorted (by decide +kernel) (vk_cons (vc_v 2) vk_nil)))) (blkOk_by (N := N_tree_of) (sc := defScope S_tree_of) (own := [("path", 4)]) (by decide +kernel)) (fun _ _ _ _ _ => (vg_name (i := 4) sc_tree_of.nd rfl (by first | exact Or.inl rfl | exact Or.inr rfl))) (fun _ _ _ _ _ => vts_nil) (fun _ _ _ _ _ => (ve_v 4)) (fun _ _ _ _ _ => (ve_ix (vix h64) (vc_v 2) (vc_v 4) (fun _ _ => rfl)))))))), fun as M h => t_tree_of h⟩
theorem sc__law_one : FnScope N__law_one P__law_one (defScope S__law_one) := ⟨rfl, rfl, rfl, by decide +kernel, rfl, by decide +kernel, by decide +kernel⟩
theorem ok__law_one (L : Lay K mg) : Ok0 P w K mg base 2 L.a__law_one L.fd__law_one P__law_one (vsp false sp__law_one) := by
  refine vfn (k := 1) L.F__law_one sc__law_one (fun as M h => len__law_one h) (fun cdv A outer s H E hg hr => ?_)
  have h1 := hu1 hr; have h64 := hu64 hr; have h65 := hu65 hr
  exact ⟨T__law_one, (vss_one (vs_ret (ve_ix (vix h64) (vc_v 1) (vec (ve_call (ok__law_take L) hg (hr.mono (by decide)) (by rfl) L.g__law_take L.F__law_take.kp L.b__law_take (va_bag 0 (va_d (ve_callB vcall_len (by rfl) L.m_len (by decide +kernel) (vk_cons (vc_v 1) vk_nil)) va_nil)))) (fun _ _ => rfl)))), fun as M h => t__law_one h⟩
end
end V66
/-! Defs of the law: their derivations. -/
namespace V66
open PySem PySem.Spec PyProof.Rows L2 TL RX VL
section
variable {P : Program} {w : World} {K : PySem.W.Frag} {mg : PySem.Str → Option Value} {base : Heap}
theorem sc__law_mixed : FnScope N__law_mixed P__law_mixed (defScope S__law_mixed) := ⟨rfl, rfl, rfl, by decide +kernel, rfl, by decide +kernel, by decide +kernel⟩
theorem ok__law_mixed (L : Lay K mg) : Ok0 P w K mg base 2 L.a__law_mixed L.fd__law_mixed P__law_mixed (vsp true sp__law_mixed) := by
  refine vfn (k := 1) L.F__law_mixed sc__law_mixed (fun as M h => len__law_mixed h) (fun cdv A outer s H E hg hr => ?_)
  have h1 := hu1 hr; have h64 := hu64 hr; have h65 := hu65 hr
  exact ⟨T__law_mixed, (vss_cons (vs_setO (i := 2) sc__law_mixed.nd rfl (by first | exact Or.inl rfl | exact Or.inr rfl) (vf_lst vl_nil))
  (vss_cons (vs_for PassesOwn.never rfl (vi_seq (ve_v 1)) (vg_name (i := 3) sc__law_mixed.nd rfl (by first | exact Or.inl rfl | exact Or.inr rfl))
  (vss_one (vs_mu (i := 2) rfl (by first | exact Or.inl rfl | exact Or.inr (Or.inl rfl) | exact Or.inr (Or.inr rfl)) PySem.F.plainAttrs_list PySem.F.slot_list_insert PySem.F.type_list_insert vmu_insert (vl_cons (ve_call (ok__law_take L) hg (hr.mono (by decide)) (by rfl) L.g__law_take L.F__law_take.kp L.b__law_take (va_bag 0 (va_d (ve_op vop_add (vec (ve_callB vcall_len (by rfl) L.m_len (by decide +kernel) (vk_cons (vc_v 2) vk_nil))) (vec ve_int)) va_nil))) (vl_cons (ve_v 3) vl_nil)))))
  (vss_one (vs_retV (i := 2) rfl (by first | exact Or.inl rfl | exact Or.inr (Or.inl rfl) | exact Or.inr (Or.inr rfl)))))), fun as M h => t__law_mixed h⟩
theorem sc__law_numbers : FnScope N__law_numbers P__law_numbers (defScope S__law_numbers) := ⟨rfl, rfl, rfl, by decide +kernel, rfl, by decide +kernel, by decide +kernel⟩
theorem ok__law_numbers (L : Lay K mg) : Ok0 P w K mg base 2 L.a__law_numbers L.fd__law_numbers P__law_numbers (vsp true sp__law_numbers) := by
  refine vfn (k := 1) L.F__law_numbers sc__law_numbers (fun as M h => len__law_numbers h) (fun cdv A outer s H E hg hr => ?_)
  have h1 := hu1 hr; have h64 := hu64 hr; have h65 := hu65 hr
  exact ⟨T__law_numbers, (vss_cons (vs_setLcK (j := 2) (own := [("path", 3)]) rfl sc__law_numbers.nd rfl rfl (sw_true rfl rfl rfl (by decide +kernel)) (i := 0) rfl (by first | exact Or.inl rfl | exact Or.inr (Or.inl rfl) | exact Or.inr (Or.inr rfl)) (blkOk_by (N := N__law_numbers) (sc := defScope S__law_numbers) (own := [("path", 3)]) (by decide +kernel)) (fun _ _ _ _ _ => (vg_name (i := 3) sc__law_numbers.nd rfl (by first | exact Or.inl rfl | exact Or.inr rfl))) (fun _ _ _ _ _ => vts_nil) (fun _ _ _ _ _ => (ve_call (ok__law_number_of L) hg (hr.mono (by decide)) (by rfl) L.g__law_number_of L.F__law_number_of.kp L.b__law_number_of (va_d (ve_v 3) (va_d (ve_v 1) va_nil)))))
  (vss_one (vs_retF (vf_callB (vcallF_sortedN rfl) (by rfl) L.m_sorted (by decide +kernel) (vk_cons (vec (vfe (vf_lc (own := [("number", 4)]) rfl sc__law_numbers.nd (vi_seq (ve_v 2)) (blkOk_by (N := N__law_numbers) (sc := defScope S__law_numbers) (own := [("number", 4)]) (by decide +kernel)) (fun _ _ _ _ _ => (vg_name (i := 4) sc__law_numbers.nd rfl (by first | exact Or.inl rfl | exact Or.inr rfl))) (fun _ _ _ _ _ => (vts_one (vt_cmp vop_isnot (vc_v 4) (vec ve_non) (nomark _)))) (fun _ _ _ _ _ => (ve_v 4))))) vk_nil))))), fun as M h => t__law_numbers h⟩
theorem sc__law_versions : FnScope N__law_versions P__law_versions (defScope S__law_versions) := ⟨rfl, rfl, rfl, by decide +kernel, rfl, by decide +kernel, by decide +kernel⟩
theorem ok__law_versions (L : Lay K mg) : Ok0 P w K mg base 3 L.a__law_versions L.fd__law_versions P__law_versions (vsp true sp__law_versions) := by
  refine vfn (k := 2) L.F__law_versions sc__law_versions (fun as M h => len__law_versions h) (fun cdv A outer s H E hg hr => ?_)
  have h1 := hu1 hr; have h64 := hu64 hr; have h65 := hu65 hr
  exact ⟨T__law_versions, (vss_cons (vs_setO (i := 2) sc__law_versions.nd rfl (by first | exact Or.inl rfl | exact Or.inr rfl) (vf_lst vl_nil))
  (vss_cons (vs_for PassesOwn.never rfl (vi_range1 (by rfl) L.m_range (vl_cons (ve_v 1) vl_nil)) (vg_name (i := 3) sc__law_versions.nd rfl (by first | exact Or.inl rfl | exact Or.inr rfl))
  (vss_one (vs_mu (i := 2) rfl (by first | exact Or.inl rfl | exact Or.inr (Or.inl rfl) | exact Or.inr (Or.inr rfl)) PySem.F.plainAttrs_list PySem.F.slot_list_append PySem.F.type_list_append vmu_append (vl_cons (ve_tup (vl_cons (ve_call (ok__law_one L) hg (hr.mono (by decide)) (by rfl) L.g__law_one L.F__law_one.kp L.b__law_one (va_bag 0 (va_d (vfe (vf_lst (vl_cons ve_int (vl_cons ve_int (vl_cons ve_int (vl_cons ve_int (vl_cons ve_int vl_nil))))))) va_nil))) (vl_cons (ve_call (ok__law_take L) hg (hr.mono (by decide)) (by rfl) L.g__law_take L.F__law_take.kp L.b__law_take (va_bag 0 (va_d ve_int va_nil))) (vl_cons (ve_call (ok__law_take L) hg (hr.mono (by decide)) (by rfl) L.g__law_take L.F__law_take.kp L.b__law_take (va_bag 0 (va_d ve_int va_nil))) vl_nil)))) vl_nil))))
  (vss_one (vs_retF (vf_sortsV rfl h64 (by rfl) (by rfl) L.m_sorted L.m_set (vc_v 2)))))), fun as M h => t__law_versions h⟩
theorem sc__law_some_plan : FnScope N__law_some_plan P__law_some_plan (defScope S__law_some_plan) := ⟨rfl, rfl, rfl, by decide +kernel, rfl, by decide +kernel, by decide +kernel⟩
theorem ok__law_some_plan (L : Lay K mg) : Ok0 P w K mg base 3 L.a__law_some_plan L.fd__law_some_plan P__law_some_plan (vsp true sp__law_some_plan) := by
  refine vfn (k := 2) L.F__law_some_plan sc__law_some_plan (fun as M h => len__law_some_plan h) (fun cdv A outer s H E hg hr => ?_)
  have h1 := hu1 hr; have h64 := hu64 hr; have h65 := hu65 hr
  exact ⟨T__law_some_plan, (vss_cons (vs_setO (i := 2) sc__law_some_plan.nd rfl (by first | exact Or.inl rfl | exact Or.inr rfl) vf_dnew)
  (vss_cons (vs_for PassesOwn.never rfl (vi_seq (vfe (vf_call (ok__law_mixed L) hg (hr.mono (by decide)) (by rfl) L.g__law_mixed L.F__law_mixed.kp L.b__law_mixed (va_bag 0 (va_d (vfe (vf_callT (vcallF_list rfl) (by rfl) L.m_list (by decide +kernel) (vk_cons (vec (ve_ix (vix h64) (vc_v 1) (vec ve_int) (fun _ _ => rfl))) vk_nil))) va_nil))))) (vg_name (i := 3) sc__law_some_plan.nd rfl (by first | exact Or.inl rfl | exact Or.inr rfl))
  (vss_one (vs_if (vt_cmp vop_gt (vec (ve_call (ok__law_take L) hg (hr.mono (by decide)) (by rfl) L.g__law_take L.F__law_take.kp L.b__law_take (va_bag 0 (va_d ve_int va_nil)))) (vec ve_int) (nomark _))
  (vss_one (vs_put (i := 2) h1 rfl (by first | exact Or.inl rfl | exact Or.inr (Or.inl rfl) | exact Or.inr (Or.inr rfl)) (ve_ix (vix h64) (vc_v 3) (vec ve_int) (fun _ _ => rfl)) (ve_tup (vl_cons (ve_ix (vix h64) (vc_v 3) (vec ve_int) (fun _ _ => rfl)) (vl_cons (ve_callT vcall_tuple (by rfl) L.m_tuple (by decide +kernel) (vk_cons (vec (vfe (vf_lc (own := [("feature", 4)]) rfl sc__law_some_plan.nd (vi_seq (ve_ix (vix h64) (vc_v 3) (vec ve_int) (fun _ _ => rfl))) (blkOk_by (N := N__law_some_plan) (sc := defScope S__law_some_plan) (own := [("feature", 4)]) (by decide +kernel)) (fun _ _ _ _ _ => (vg_name (i := 4) sc__law_some_plan.nd rfl (by first | exact Or.inl rfl | exact Or.inr rfl))) (fun _ _ _ _ _ => (vts_one (vt_cmp (vop_eq h64) (vec (ve_call (ok__law_take L) hg (hr.mono (by decide)) (by rfl) L.g__law_take L.F__law_take.kp L.b__law_take (va_bag 0 (va_d ve_int va_nil)))) (vec ve_int) (nomark _)))) (fun _ _ _ _ _ => (ve_ix (vix h64) (vc_v 4) (vec ve_int) (fun _ _ => rfl)))))) vk_nil)) vl_nil)))))
  vss_nil)))
  (vss_one (vs_retV (i := 2) rfl (by first | exact Or.inl rfl | exact Or.inr (Or.inl rfl) | exact Or.inr (Or.inr rfl)))))), fun as M h => t__law_some_plan h⟩
theorem sc__law_drawn_log : FnScope N__law_drawn_log P__law_drawn_log (defScope S__law_drawn_log) := ⟨rfl, rfl, rfl, by decide +kernel, rfl, by decide +kernel, by decide +kernel⟩
theorem ok__law_drawn_log (L : Lay K mg) : Ok0 P w K mg base 3 L.a__law_drawn_log L.fd__law_drawn_log P__law_drawn_log (vsp false sp__law_drawn_log) := by
  refine vfn (k := 2) L.F__law_drawn_log sc__law_drawn_log (fun as M h => len__law_drawn_log h) (fun cdv A outer s H E hg hr => ?_)
  have h1 := hu1 hr; have h64 := hu64 hr; have h65 := hu65 hr
  exact ⟨T__law_drawn_log, (vss_cons (vs_setLc (i := 2) (own := [("number", 3)]) rfl sc__law_drawn_log.nd rfl rfl (sw_true rfl rfl rfl (by decide +kernel)) (vi_seq (vfe (vf_call (ok__law_numbers L) hg (hr.mono (by decide)) (by rfl) L.g__law_numbers L.F__law_numbers.kp L.b__law_numbers (va_d (ve_v 1) (va_d ve_str va_nil))))) (blkOk_by (N := N__law_drawn_log) (sc := defScope S__law_drawn_log) (own := [("number", 3)]) (by decide +kernel)) (fun _ _ _ _ _ => (vg_name (i := 3) sc__law_drawn_log.nd rfl (by first | exact Or.inl rfl | exact Or.inr rfl))) (fun _ _ _ _ _ => vts_nil) (fun _ _ _ _ _ => (ve_op vop_add (vec ve_str) (vec (ve_callT vcall_str (by rfl) L.m_str (by decide +kernel) (vk_cons (vc_v 3) vk_nil))))))
  (vss_cons (vs_set (i := 2) sc__law_drawn_log.nd rfl (by first | exact Or.inl rfl | exact Or.inr rfl) (ve_op vop_add (vc_v 2) (vec (ve_op vop_mul (vec (vfe (vf_lst (vl_cons ve_str vl_nil)))) (vec (ve_callT vcall_int (by rfl) L.m_int (by decide +kernel) (vk_cons (vec (ve_cmp (vop_eq h64) (vec (ve_call (ok__law_take L) hg (hr.mono (by decide)) (by rfl) L.g__law_take L.F__law_take.kp L.b__law_take (va_bag 0 (va_d ve_int va_nil)))) (vec ve_int) (nomark _))) vk_nil)))))))
  (vss_cons (vs_par (i := 4) (j := 5) (pa_EF (vfe (vf_lst (vl_cons ve_str (vl_cons ve_str (vl_cons ve_str (vl_cons ve_str (vl_cons ve_str vl_nil))))))) (vf_lst vl_nil)) rfl sc__law_drawn_log.nd rfl rfl (by decide) rfl rfl rfl)
  (vss_cons (vs_for PassesOwn.never rfl (vi_range1 (by rfl) L.m_range (vl_cons (ve_ifE (vt_cmp (vop_ne h64) (vc_v 2) (vec (vfe (vf_lst vl_nil))) (nomark _)) (ve_call (ok__law_take L) hg (hr.mono (by decide)) (by rfl) L.g__law_take L.F__law_take.kp L.b__law_take (va_bag 0 (va_d ve_int va_nil))) ve_int) vl_nil)) (vg_name (i := 6) sc__law_drawn_log.nd rfl (by first | exact Or.inl rfl | exact Or.inr rfl))
  (vss_cons (vs_set (i := 7) sc__law_drawn_log.nd rfl (by first | exact Or.inl rfl | exact Or.inr rfl) (ve_call (ok__law_one L) hg (hr.mono (by decide)) (by rfl) L.g__law_one L.F__law_one.kp L.b__law_one (va_bag 0 (va_d (ve_v 4) va_nil))))
  (vss_one (vs_mu (i := 5) rfl (by first | exact Or.inl rfl | exact Or.inr (Or.inl rfl) | exact Or.inr (Or.inr rfl)) PySem.F.plainAttrs_list PySem.F.slot_list_append PySem.F.type_list_append vmu_append (vl_cons (ve_ifE (vt_cmp (vop_eq h64) (vec (ve_call (ok__law_take L) hg (hr.mono (by decide)) (by rfl) L.g__law_take L.F__law_take.kp L.b__law_take (va_bag 0 (va_d ve_int va_nil)))) (vec ve_int) (nomark _)) (ve_tup (vl_cons ve_str (vl_cons (ve_v 7) vl_nil))) (ve_tup (vl_cons ve_str (vl_cons (ve_v 7) (vl_cons (ve_call (ok__law_one L) hg (hr.mono (by decide)) (by rfl) L.g__law_one L.F__law_one.kp L.b__law_one (va_bag 0 (va_d (ve_v 2) va_nil))) vl_nil))))) vl_nil)))))
  (vss_cons (vs_set (i := 8) sc__law_drawn_log.nd rfl (by first | exact Or.inl rfl | exact Or.inr rfl) (ve_call (ok__law_log_text L) hg (hr.mono (by decide)) (by rfl) L.g__law_log_text L.F__law_log_text.kp L.b__law_log_text (va_d (ve_tup (vl_cons (ve_callT vcall_tuple (by rfl) L.m_tuple (by decide +kernel) (vk_cons (vc_v 5) vk_nil)) (vl_cons (ve_call (ok__law_one L) hg (hr.mono (by decide)) (by rfl) L.g__law_one L.F__law_one.kp L.b__law_one (va_bag 0 (va_d (ve_op vop_add (vc_v 2) (vec (ve_op vop_mul (vec (vfe (vf_lst (vl_cons ve_str vl_nil)))) (vec (ve_callT vcall_int (by rfl) L.m_int (by decide +kernel) (vk_cons (vec (ve_cmp (vop_eq h64) (vc_v 2) (vec (vfe (vf_lst vl_nil))) (nomark _))) vk_nil)))))) va_nil))) vl_nil))) va_nil)))
  (vss_one (vs_ret (ve_ifE (vt_cmp vop_gt (vec (ve_call (ok__law_take L) hg (hr.mono (by decide)) (by rfl) L.g__law_take L.F__law_take.kp L.b__law_take (va_bag 0 (va_d ve_int va_nil)))) (vec ve_int) (nomark _)) (ve_v 8) (ve_op vop_add (vec (ve_slice (vc_v 8) vo_none (vo_some (ve_call (ok__law_take L) hg (hr.mono (by decide)) (by rfl) L.g__law_take L.F__law_take.kp L.b__law_take (va_bag 0 (va_d (ve_op vop_add (vec (ve_callB vcall_len (by rfl) L.m_len (by decide +kernel) (vk_cons (vc_v 8) vk_nil))) (vec ve_int)) va_nil)))))) (vec (ve_call (ok__law_one L) hg (hr.mono (by decide)) (by rfl) L.g__law_one L.F__law_one.kp L.b__law_one (va_bag 0 (va_d (vfe (vf_lst (vl_cons ve_str (vl_cons ve_str (vl_cons ve_str vl_nil))))) va_nil))))))))))))), fun as M h => t__law_drawn_log h⟩
theorem sc__law_small_packs : FnScope N__law_small_packs P__law_small_packs (defScope S__law_small_packs) := ⟨rfl, rfl, rfl, by decide +kernel, rfl, by decide +kernel, by decide +kernel⟩
theorem ok__law_small_packs (L : Lay K mg) : Ok0 P w K mg base 4 L.a__law_small_packs L.fd__law_small_packs P__law_small_packs (vsp false sp__law_small_packs) := by
  refine vfn (k := 3) L.F__law_small_packs sc__law_small_packs (fun as M h => len__law_small_packs h) (fun cdv A outer s H E hg hr => ?_)
  have h1 := hu1 hr; have h64 := hu64 hr; have h65 := hu65 hr
  exact ⟨T__law_small_packs, (vss_cons (vs_set (i := 1) sc__law_small_packs.nd rfl (by first | exact Or.inl rfl | exact Or.inr rfl) (vfe (vf_lst (vl_cons ve_str (vl_cons ve_str (vl_cons ve_str (vl_cons ve_str (vl_cons ve_str (vl_cons ve_str (vl_cons ve_str (vl_cons ve_str (vl_cons ve_str vl_nil))))))))))))
  (vss_cons (vs_setO (i := 2) sc__law_small_packs.nd rfl (by first | exact Or.inl rfl | exact Or.inr rfl) (vf_lst vl_nil))
  (vss_cons (vs_for PassesOwn.never rfl (vi_seq (vfe (vf_lst (vl_cons ve_str (vl_cons ve_str (vl_cons ve_str vl_nil)))))) (vg_name (i := 3) sc__law_small_packs.nd rfl (by first | exact Or.inl rfl | exact Or.inr rfl))
  (vss_one (vs_for PassesOwn.never rfl (vi_seq (vfe (vf_call (ok__law_versions L) hg (hr.mono (by decide)) (by rfl) L.g__law_versions L.F__law_versions.kp L.b__law_versions (va_bag 0 (va_d ve_int va_nil))))) (vg_name (i := 4) sc__law_small_packs.nd rfl (by first | exact Or.inl rfl | exact Or.inr rfl))
  (vss_cons (vs_set (i := 5) sc__law_small_packs.nd rfl (by first | exact Or.inl rfl | exact Or.inr rfl) (vfe (vf_lst (vl_cons (ve_v 3) (vl_cons (ve_op vop_add (vc_v 3) (vec ve_str)) (vl_cons (ve_op vop_add (vc_v 3) (vec ve_str)) (vl_cons (ve_op vop_add (vec ve_str) (vc_v 3)) vl_nil)))))))
  (vss_cons (vs_set (i := 6) sc__law_small_packs.nd rfl (by first | exact Or.inl rfl | exact Or.inr rfl) (vfe (vf_lc (own := [("path", 7)]) rfl sc__law_small_packs.nd (vi_seq (ve_slice (vc_v 5) (vo_some (ve_op vop_sub (vec ve_int) (vec (ve_call (ok__law_take L) hg (hr.mono (by decide)) (by rfl) L.g__law_take L.F__law_take.kp L.b__law_take (va_bag 0 (va_d ve_int va_nil)))))) vo_none)) (blkOk_by (N := N__law_small_packs) (sc := defScope S__law_small_packs) (own := [("path", 7)]) (by decide +kernel)) (fun _ _ _ _ _ => (vg_name (i := 7) sc__law_small_packs.nd rfl (by first | exact Or.inl rfl | exact Or.inr rfl))) (fun _ _ _ _ _ => (vts_one (vwt (vw_or (vt_cmp (vop_ne h64) (vc_v 7) (vc_v 3) (nomark _)) (vw_or1 (vt_cmp (vop_eq h64) (vec (ve_call (ok__law_take L) hg (hr.mono (by decide)) (by rfl) L.g__law_take L.F__law_take.kp L.b__law_take (va_bag 0 (va_d ve_int va_nil)))) (vec ve_int) (nomark _))))))) (fun _ _ _ _ _ => (ve_v 7)))))
  (vss_cons (vs_set (i := 6) sc__law_small_packs.nd rfl (by first | exact Or.inl rfl | exact Or.inr rfl) (vfe (vf_lc (own := [("path", 7)]) rfl sc__law_small_packs.nd (vi_seq (ve_v 6)) (blkOk_by (N := N__law_small_packs) (sc := defScope S__law_small_packs) (own := [("path", 7)]) (by decide +kernel)) (fun _ _ _ _ _ => (vg_name (i := 7) sc__law_small_packs.nd rfl (by first | exact Or.inl rfl | exact Or.inr rfl))) (fun _ _ _ _ _ => (vts_one (vwt (vw_or (vt_cmp (vop_ne h64) (vc_v 7) (vec (ve_op vop_add (vc_v 3) (vec ve_str))) (nomark _)) (vw_or1 (vt_cmp (vop_notIn h65) (vc_v 3) (vc_v 6) rfl)))))) (fun _ _ _ _ _ => (ve_v 7)))))
  (vss_cons (vs_setLc (i := 8) (own := [("path", 7)]) rfl sc__law_small_packs.nd rfl rfl (sw_true rfl rfl rfl (by decide +kernel)) (vi_seq (vfe (vf_callB (vcallF_sortedS rfl) (by rfl) L.m_sorted (by decide +kernel) (vk_cons (vc_v 6) vk_nil)))) (blkOk_by (N := N__law_small_packs) (sc := defScope S__law_small_packs) (own := [("path", 7)]) (by decide +kernel)) (fun _ _ _ _ _ => (vg_name (i := 7) sc__law_small_packs.nd rfl (by first | exact Or.inl rfl | exact Or.inr rfl))) (fun _ _ _ _ _ => vts_nil) (fun _ _ _ _ _ => (ve_tup (vl_cons (ve_v 7) (vl_cons (ve_call (ok__law_one L) hg (hr.mono (by decide)) (by rfl) L.g__law_one L.F__law_one.kp L.b__law_one (va_bag 0 (va_d (ve_v 1) va_nil))) vl_nil)))))
  (vss_cons (vs_set (i := 9) sc__law_small_packs.nd rfl (by first | exact Or.inl rfl | exact Or.inr rfl) (ve_ifE (vt_cmp (vop_eq h64) (vec (ve_call (ok__law_take L) hg (hr.mono (by decide)) (by rfl) L.g__law_take L.F__law_take.kp L.b__law_take (va_bag 0 (va_d ve_int va_nil)))) (vec ve_int) (nomark _)) (ve_tup (vl_cons (ve_tup (vl_cons ve_str (vl_cons (ve_tup vl_nil) (vl_cons (ve_tup vl_nil) vl_nil)))) vl_nil)) (ve_tup vl_nil)))
  (vss_one (vs_mu (i := 2) rfl (by first | exact Or.inl rfl | exact Or.inr (Or.inl rfl) | exact Or.inr (Or.inr rfl)) PySem.F.plainAttrs_list PySem.F.slot_list_append PySem.F.type_list_append vmu_append (vl_cons (ve_tup (vl_cons (ve_v 3) (vl_cons (ve_v 4) (vl_cons (ve_tup vl_nil) (vl_cons (ve_tup vl_nil) (vl_cons (ve_tup vl_nil) (vl_cons (ve_v 9) (vl_cons (ve_tup vl_nil) (vl_cons (ve_callT vcall_fuple (by rfl) L.m_tuple (by decide +kernel) (vk_cons (vc_v 8) vk_nil)) vl_nil))))))))) vl_nil)))))))))))
  (vss_one (vs_ret (ve_tup (vl_cons (ve_callT vcall_tuple (by rfl) L.m_tuple (by decide +kernel) (vk_cons (vc_v 2) vk_nil)) (vl_cons (ve_tup vl_nil) vl_nil)))))))), fun as M h => t__law_small_packs h⟩
theorem sc__law_drawn_files : FnScope N__law_drawn_files P__law_drawn_files (defScope S__law_drawn_files) := ⟨rfl, rfl, rfl, by decide +kernel, rfl, by decide +kernel, by decide +kernel⟩
theorem ok__law_drawn_files (L : Lay K mg) : Ok0 P w K mg base 4 L.a__law_drawn_files L.fd__law_drawn_files P__law_drawn_files (vsp true sp__law_drawn_files) := by
  refine vfn (k := 3) L.F__law_drawn_files sc__law_drawn_files (fun as M h => len__law_drawn_files h) (fun cdv A outer s H E hg hr => ?_)
  have h1 := hu1 hr; have h64 := hu64 hr; have h65 := hu65 hr
  exact ⟨T__law_drawn_files, (vss_cons (vs_par (i := 2) (j := 3) (pa_EF (vfe (vf_lst (vl_cons ve_str (vl_cons ve_str (vl_cons ve_str (vl_cons ve_str (vl_cons ve_str (vl_cons ve_str (vl_cons ve_str vl_nil))))))))) vf_dnew) rfl sc__law_drawn_files.nd rfl rfl (by decide) rfl rfl rfl)
  (vss_cons (vs_for PassesOwn.never rfl (vi_seq (ve_ix (vix h64) (vc_v 1) (vec ve_int) (fun _ _ => rfl))) (vg_name (i := 4) sc__law_drawn_files.nd rfl (by first | exact Or.inl rfl | exact Or.inr rfl))
  (vss_one (vs_for PassesOwn.never rfl (vi_seq (ve_ix (vix h64) (vc_v 4) (vec ve_int) (fun _ _ => rfl))) (vg_tup rfl (vgs_cons (vg_name (i := 5) sc__law_drawn_files.nd rfl (by first | exact Or.inl rfl | exact Or.inr rfl)) (vgs_cons (vg_name (i := 6) sc__law_drawn_files.nd rfl (by first | exact Or.inl rfl | exact Or.inr rfl)) vgs_nil)))
  (vss_one (vs_if (vt_cmp (vop_eq h64) (vec (ve_call (ok__law_take L) hg (hr.mono (by decide)) (by rfl) L.g__law_take L.F__law_take.kp L.b__law_take (va_bag 0 (va_d ve_int va_nil)))) (vec ve_int) (nomark _))
  (vss_one (vs_put (i := 3) h1 rfl (by first | exact Or.inl rfl | exact Or.inr (Or.inl rfl) | exact Or.inr (Or.inr rfl)) (ve_op vop_add (vec ve_str) (vc_v 5)) (ve_ifE (vt_cmp vop_gt (vec (ve_call (ok__law_take L) hg (hr.mono (by decide)) (by rfl) L.g__law_take L.F__law_take.kp L.b__law_take (va_bag 0 (va_d ve_int va_nil)))) (vec ve_int) (nomark _)) (ve_v 6) (ve_call (ok__law_one L) hg (hr.mono (by decide)) (by rfl) L.g__law_one L.F__law_one.kp L.b__law_one (va_bag 0 (va_d (ve_v 2) va_nil))))))
  vss_nil)))))
  (vss_cons (vs_for PassesOwn.never rfl (vi_seq (vfe (vf_lst (vl_cons ve_str (vl_cons ve_str (vl_cons ve_str (vl_cons ve_str (vl_cons ve_str (vl_cons ve_str (vl_cons ve_str (vl_cons ve_str (vl_cons ve_str vl_nil)))))))))))) (vg_name (i := 5) sc__law_drawn_files.nd rfl (by first | exact Or.inl rfl | exact Or.inr rfl))
  (vss_one (vs_if (vt_cmp (vop_eq h64) (vec (ve_call (ok__law_take L) hg (hr.mono (by decide)) (by rfl) L.g__law_take L.F__law_take.kp L.b__law_take (va_bag 0 (va_d ve_int va_nil)))) (vec ve_int) (nomark _))
  (vss_one (vs_put (i := 3) h1 rfl (by first | exact Or.inl rfl | exact Or.inr (Or.inl rfl) | exact Or.inr (Or.inr rfl)) (ve_v 5) (ve_call (ok__law_one L) hg (hr.mono (by decide)) (by rfl) L.g__law_one L.F__law_one.kp L.b__law_one (va_bag 0 (va_d (ve_v 2) va_nil)))))
  vss_nil)))
  (vss_cons (vs_for PassesOwn.never rfl (vi_seq (ve_slice (vec (vfe (vf_call (ok__law_mixed L) hg (hr.mono (by decide)) (by rfl) L.g__law_mixed L.F__law_mixed.kp L.b__law_mixed (va_bag 0 (va_d (vfe (vf_lst (vl_cons ve_int (vl_cons ve_int (vl_cons ve_int (vl_cons ve_int (vl_cons ve_int vl_nil))))))) va_nil))))) vo_none (vo_some (ve_call (ok__law_take L) hg (hr.mono (by decide)) (by rfl) L.g__law_take L.F__law_take.kp L.b__law_take (va_bag 0 (va_d ve_int va_nil)))))) (vg_name (i := 7) sc__law_drawn_files.nd rfl (by first | exact Or.inl rfl | exact Or.inr rfl))
  (vss_one (vs_put (i := 3) h1 rfl (by first | exact Or.inl rfl | exact Or.inr (Or.inl rfl) | exact Or.inr (Or.inr rfl)) (ve_op vop_add (vec ve_str) (vec (ve_callT vcall_str (by rfl) L.m_str (by decide +kernel) (vk_cons (vc_v 7) vk_nil)))) (ve_call (ok__law_one L) hg (hr.mono (by decide)) (by rfl) L.g__law_one L.F__law_one.kp L.b__law_one (va_bag 0 (va_d (ve_op vop_add (vc_v 2) (vec (vfe (vf_lst (vl_cons (ve_call (ok__law_lock_text L) hg (hr.mono (by decide)) (by rfl) L.g__law_lock_text L.F__law_lock_text.kp L.b__law_lock_text (va_d (vfe (vf_call (ok__law_some_plan L) hg (hr.mono (by decide)) (by rfl) L.g__law_some_plan L.F__law_some_plan.kp L.b__law_some_plan (va_bag 0 (va_d (ve_v 1) va_nil)))) va_nil)) vl_nil))))) va_nil))))))
  (vss_cut (vs_if (vt_cmp vop_gt (vec (ve_call (ok__law_take L) hg (hr.mono (by decide)) (by rfl) L.g__law_take L.F__law_take.kp L.b__law_take (va_bag 0 (va_d ve_int va_nil)))) (vec ve_int) (nomark _))
  (vss_one (vs_put (i := 3) h1 rfl (by first | exact Or.inl rfl | exact Or.inr (Or.inl rfl) | exact Or.inr (Or.inr rfl)) ve_str (ve_call (ok__law_one L) hg (hr.mono (by decide)) (by rfl) L.g__law_one L.F__law_one.kp L.b__law_one (va_bag 0 (va_d (vfe (vf_lst (vl_cons ve_str (vl_cons (ve_call (ok__law_lock_text L) hg (hr.mono (by decide)) (by rfl) L.g__law_lock_text L.F__law_lock_text.kp L.b__law_lock_text (va_d (vfe (vf_call (ok__law_some_plan L) hg (hr.mono (by decide)) (by rfl) L.g__law_some_plan L.F__law_some_plan.kp L.b__law_some_plan (va_bag 0 (va_d (ve_v 1) va_nil)))) va_nil)) vl_nil)))) va_nil)))))
  vss_nil)
  (vss_cut (vs_if (vt_cmp (vop_eq h64) (vec (ve_call (ok__law_take L) hg (hr.mono (by decide)) (by rfl) L.g__law_take L.F__law_take.kp L.b__law_take (va_bag 0 (va_d ve_int va_nil)))) (vec ve_int) (nomark _))
  (vss_one (vs_put (i := 3) h1 rfl (by first | exact Or.inl rfl | exact Or.inr (Or.inl rfl) | exact Or.inr (Or.inr rfl)) ve_str (ve_tmp 3 (ve_call (ok__law_drawn_log L) hg (hr.mono (by decide)) (by rfl) L.g__law_drawn_log L.F__law_drawn_log.kp L.b__law_drawn_log (va_bag 0 (va_d (ve_v 3) va_nil))))))
  vss_nil)
  (vss_cut (vs_if (vt_cmp (vop_eq h64) (vec (ve_call (ok__law_take L) hg (hr.mono (by decide)) (by rfl) L.g__law_take L.F__law_take.kp L.b__law_take (va_bag 0 (va_d ve_int va_nil)))) (vec ve_int) (nomark _))
  (vss_one (vs_put (i := 3) h1 rfl (by first | exact Or.inl rfl | exact Or.inr (Or.inl rfl) | exact Or.inr (Or.inr rfl)) ve_str (ve_call (ok__law_one L) hg (hr.mono (by decide)) (by rfl) L.g__law_one L.F__law_one.kp L.b__law_one (va_bag 0 (va_d (vfe (vf_lst (vl_cons ve_str (vl_cons ve_str (vl_cons (ve_tmp 3 (ve_call (ok__law_drawn_log L) hg (hr.mono (by decide)) (by rfl) L.g__law_drawn_log L.F__law_drawn_log.kp L.b__law_drawn_log (va_bag 0 (va_d (ve_v 3) va_nil)))) vl_nil))))) va_nil)))))
  vss_nil)
  (vss_one (vs_retF (vf_callT (vcallF_pairs rfl) (by rfl) L.m_dict (by decide +kernel) (vk_cons (vec (vfe (vf_call (ok__law_mixed L) hg (hr.mono (by decide)) (by rfl) L.g__law_mixed L.F__law_mixed.kp L.b__law_mixed (va_bag 0 (va_d (vfe (vf_items rfl (by rfl) L.m_list (by decide +kernel) (vc_v 3))) va_nil))))) vk_nil))))))))))), fun as M h => t__law_drawn_files h⟩
end
end V66
/-! The law. -/
namespace V66
open PySem PySem.Spec PyProof.Rows L2 TL RX VL
theorem sc_law : FnScope N_law P_law (defScope S_law) := ⟨rfl, rfl, rfl, by decide +kernel, rfl, by decide +kernel, by decide +kernel⟩
def spLaw (K : PySem.W.Frag) : Sp := fun vs H Q _ => ∃ (a : Addr) (ns : List Int), vs = [.ref a] ∧ SqL K H a (ns.map V.int) ∧ ns.length ≤ 63 ∧ ∀ H', Q (.bl true) H'
section
variable {P : Program} {w : World} {K : PySem.W.Frag} {mg : PySem.Str → Option Value} {base : Heap}
theorem ok_law (L : Lay K mg) : Ok0 P w K mg base 5 L.a_law L.fd_law ["script"] (spLaw K) := by
  have GB : Ok0 P w K mg base 1 L.a__law_bag L.fd__law_bag ["script"] (spBag K) := ⟨fun vs H Q E q => (ok_bag (P := P) (w := w) (base := base) (k := 0) L.F__law_bag L.m_abs).len vs H Q E q, fun A outer s H args us vs Q E _ hr e0 hb r q => (ok_bag (P := P) (w := w) (base := base) (k := 0) L.F__law_bag L.m_abs).run A outer s H args us vs Q E hr e0 hb r q⟩
  refine Ok0.mk_of (k := 4) L.F_law sc_law (fun vs H Q E h => ?_) (fun cdv A outer s H vs Q E hg hr h => ?_)
  · obtain ⟨a, ns, rfl, _⟩ := h
    rfl
  · obtain ⟨a, ns, rfl, hS, hl, q⟩ := h
    have h1 := hu1 hr; have h64 := hu64 hr; have h65 := hu65 hr
    refine ⟨_, pss_cons (ps_set (i := 1) sc_law.nd rfl (by first | exact Or.inl rfl | exact Or.inr rfl) (pe_call00 GB hg (hr.mono (by decide)) (by rfl) L.g__law_bag L.F__law_bag.kp L.b__law_bag (pa_cons (pv 0) pa_nil)))
      (show VSs false _ _ T_law from (vss_cons (vs_for PassesOwn.never rfl (vi_range1 (by rfl) L.m_range (vl_cons ve_int vl_nil)) (vg_name (i := 2) sc_law.nd rfl (by first | exact Or.inl rfl | exact Or.inr rfl))
  (vss_cons (vs_set (i := 3) sc_law.nd rfl (by first | exact Or.inl rfl | exact Or.inr rfl) (ve_call (ok__law_small_packs L) hg (hr.mono (by decide)) (by rfl) L.g__law_small_packs L.F__law_small_packs.kp L.b__law_small_packs (va_bag 1 va_nil)))
  (vss_cons (vs_par3 (i := 4) (j := 5) (l := 6) (vl_cons (vfe (vf_call (ok__law_drawn_files L) hg (hr.mono (by decide)) (by rfl) L.g__law_drawn_files L.F__law_drawn_files.kp L.b__law_drawn_files (va_bag 1 (va_d (ve_v 3) va_nil)))) (vl_cons (vfe (vf_call (ok__law_some_plan L) hg (hr.mono (by decide)) (by rfl) L.g__law_some_plan L.F__law_some_plan.kp L.b__law_some_plan (va_bag 1 (va_d (ve_v 3) va_nil)))) (vl_cons (vfe (vf_call (ok__law_some_plan L) hg (hr.mono (by decide)) (by rfl) L.g__law_some_plan L.F__law_some_plan.kp L.b__law_some_plan (va_bag 1 (va_d (ve_v 3) va_nil)))) vl_nil))) rfl sc_law.nd rfl rfl rfl (by decide) (by decide) (by decide) rfl rfl rfl rfl)
  (vss_cons (vs_set (i := 7) sc_law.nd rfl (by first | exact Or.inl rfl | exact Or.inr rfl) (ve_callB (vcall_repr hg h64) (by rfl) L.m_repr (by decide +kernel) (vk_cons (vec (vfe (vf_lst (vl_cons (ve_v 3) (vl_cons (ve_v 4) (vl_cons (ve_v 5) vl_nil)))))) vk_nil)))
  (vss_cons (vs_set (i := 8) sc_law.nd rfl (by first | exact Or.inl rfl | exact Or.inr rfl) (vfe (vf_lst (vl_cons (vfe (vf_call (ok__law_tree_of L) hg (hr.mono (by decide)) (by rfl) L.g__law_tree_of L.F__law_tree_of.kp L.b__law_tree_of (va_d (ve_v 3) (va_d (ve_v 5) va_nil)))) (vl_cons (vfe (vf_call (ok__law_tree_on L) hg (hr.mono (by decide)) (by rfl) L.g__law_tree_on L.F__law_tree_on.kp L.b__law_tree_on (va_d (ve_v 4) va_nil))) (vl_cons (vfe (vf_call (ok__law_tree_of L) hg (hr.mono (by decide)) (by rfl) L.g__law_tree_of L.F__law_tree_of.kp L.b__law_tree_of (va_d (ve_v 3) (va_d (ve_v 6) va_nil)))) vl_nil))))))
  (vss_cons (vs_if (vt_not (vt_val (ve_call (ok__law_alike L) hg (hr.mono (by decide)) (by rfl) L.g__law_alike L.F__law_alike.kp L.b__law_alike (va_d (vfe (vf_lst (vl_cons (vfe (vf_call (ok_tree_of L) hg (hr.mono (by decide)) (by rfl) L.g_tree_of L.F_tree_of.kp L.b_tree_of (va_d (ve_v 3) (va_d (ve_v 5) va_nil)))) (vl_cons (vfe (vf_call (ok_tree_on L) hg (hr.mono (by decide)) (by rfl) L.g_tree_on L.F_tree_on.kp L.b_tree_on (va_d (ve_v 4) va_nil))) (vl_cons (vfe (vf_call (ok_tree_of L) hg (hr.mono (by decide)) (by rfl) L.g_tree_of L.F_tree_of.kp L.b_tree_of (va_d (ve_v 3) (va_d (ve_v 6) va_nil)))) vl_nil))))) (va_d (ve_v 8) va_nil)))))
  (vss_one (vs_ret ve_bl))
  vss_nil)
  (vss_cons (vs_set (i := 9) sc_law.nd rfl (by first | exact Or.inl rfl | exact Or.inr rfl) (vfe (vf_lst (vl_cons (ve_tup (vl_cons (ve_ix (vix h64) (vc_v 8) (vec ve_int) (fun _ _ => rfl)) (vl_cons (ve_ix (vix h64) (vc_v 8) (vec ve_int) (fun _ _ => rfl)) vl_nil))) (vl_cons (ve_tup (vl_cons (ve_ix (vix h64) (vc_v 8) (vec ve_int) (fun _ _ => rfl)) (vl_cons (ve_ix (vix h64) (vc_v 8) (vec ve_int) (fun _ _ => rfl)) vl_nil))) (vl_cons (ve_tup (vl_cons (ve_ix (vix h64) (vc_v 8) (vec ve_int) (fun _ _ => rfl)) (vl_cons (ve_ix (vix h64) (vc_v 8) (vec ve_int) (fun _ _ => rfl)) vl_nil))) (vl_cons (ve_tup (vl_cons (ve_ix (vix h64) (vc_v 8) (vec ve_int) (fun _ _ => rfl)) (vl_cons (ve_ix (vix h64) (vc_v 8) (vec ve_int) (fun _ _ => rfl)) vl_nil))) (vl_cons (ve_tup (vl_cons (vfe vf_dnew) (vl_cons (ve_ix (vix h64) (vc_v 8) (vec ve_int) (fun _ _ => rfl)) vl_nil))) vl_nil))))))))
  (vss_cons (vs_for PassesOwn.never rfl (vi_seq (ve_v 9)) (vg_tup rfl (vgs_cons (vg_name (i := 10) sc_law.nd rfl (by first | exact Or.inl rfl | exact Or.inr rfl)) (vgs_cons (vg_name (i := 11) sc_law.nd rfl (by first | exact Or.inl rfl | exact Or.inr rfl)) vgs_nil)))
  (vss_cons (vs_set (i := 12) sc_law.nd rfl (by first | exact Or.inl rfl | exact Or.inr rfl) (vfe (vf_callT (vcallF_pairs rfl) (by rfl) L.m_dict (by decide +kernel) (vk_cons (vec (vfe (vf_call (ok__law_mixed L) hg (hr.mono (by decide)) (by rfl) L.g__law_mixed L.F__law_mixed.kp L.b__law_mixed (va_bag 1 (va_d (vfe (vf_items rfl (by rfl) L.m_list (by decide +kernel) (vc_v 11))) va_nil))))) vk_nil))))
  (vss_one (vs_for PassesOwn.never rfl (vi_seq (ve_tup (vl_cons (ve_tup (vl_cons (ve_v 10) (vl_cons (ve_v 12) vl_nil))) (vl_cons (ve_tup (vl_cons (ve_v 12) (vl_cons (ve_v 10) vl_nil))) vl_nil)))) (vg_tup rfl (vgs_cons (vg_name (i := 13) sc_law.nd rfl (by first | exact Or.inl rfl | exact Or.inr rfl)) (vgs_cons (vg_name (i := 14) sc_law.nd rfl (by first | exact Or.inl rfl | exact Or.inr rfl)) vgs_nil)))
  (vss_cons (vs_par (i := 15) (j := 16) (pa_EE (vfe (vf_call (ok_steps_between L) hg (hr.mono (by decide)) (by rfl) L.g_steps_between L.F_steps_between.kp L.b_steps_between (va_d (ve_v 13) (va_d (ve_v 14) va_nil)))) (vfe (vf_call (ok__law_steps L) hg (hr.mono (by decide)) (by rfl) L.g__law_steps L.F__law_steps.kp L.b__law_steps (va_d (ve_v 13) (va_d (ve_v 14) va_nil))))) rfl sc_law.nd rfl rfl (by decide) rfl rfl rfl)
  (vss_one (vs_if (vwt (vw_or (vt_not (vt_val (ve_call (ok__law_alike L) hg (hr.mono (by decide)) (by rfl) L.g__law_alike L.F__law_alike.kp L.b__law_alike (va_d (ve_v 15) (va_d (ve_v 16) va_nil))))) (vw_or1 (vt_cmp (vop_neL (Nat.lt_of_succ_lt h1)) (vec (vfe (vf_call (ok__law_stepped L) hg (hr.mono (by decide)) (by rfl) L.g__law_stepped L.F__law_stepped.kp L.b__law_stepped (va_d (ve_v 13) (va_d (ve_v 15) va_nil))))) (vc_v 14) (nomark _)))))
  (vss_one (vs_ret ve_bl))
  vss_nil)))))))
  (vss_one (vs_if (vt_cmp (vop_ne h64) (vec (ve_callB (vcall_repr hg h64) (by rfl) L.m_repr (by decide +kernel) (vk_cons (vec (vfe (vf_lst (vl_cons (ve_v 3) (vl_cons (ve_v 4) (vl_cons (ve_v 5) vl_nil)))))) vk_nil))) (vc_v 7) (nomark _))
  (vss_one (vs_ret ve_bl))
  vss_nil))))))))))
  (vss_one (vs_ret ve_bl)))), ?_⟩
    refine ⟨.ref a, rfl, a, ns, rfl, hS, hl, fun H0 b sm nb bg => ?_⟩
    obtain ⟨l, cs, ow, hl0, lb⟩ := bg.own
    obtain ⟨ob, hb⟩ := bg.lst
    have cx : Ctx ⟨fun x => x = b ∨ x = l, b⟩ H0 := ⟨.inl rfl, bg, fun x hx => by
      rcases hx with rfl | rfl
      · exact ⟨_, hb⟩
      · exact ⟨_, hl0⟩, fun l' h' => .inr (Own.fn h' ow)⟩
    refine ⟨⟨⟨fun x => x = b ∨ x = l, b⟩, H0⟩, fun x => x = b ∨ x = l, [none, some .bag, none, none, none, none, none, none, none, none, none, none, none, none, none, none, none], { nx := fun _ => False, rt := fun d => d = .bl true }, ⟨rfl, cx, cx, .refl, fun _ h => h, fun i wv e => ?_, fun i j x y a' e1 e2 _ _ => ?_⟩, t_law, ⟨fun _ _ _ _ h => h.elim, fun d v _ H' e _ r => ?_, fun _ _ _ _ h => h.elim, fun _ _ _ _ h => h.elim⟩⟩
    · have hi : i = 1 := by
        match i, e with
        | 1, _ => rfl
        | 0, e => cases e
        | n + 2, e => (have := e; simp at this; rcases n with _ | _ | _ | _ | _ | _ | _ | _ | _ | _ | _ | _ | _ | _ | _ | _ | n <;> simp at this)
      subst hi
      cases e
      exact ⟨_, rfl, rfl⟩
    · exfalso
      match i, e1 with
      | 1, e1 => cases e1
      | 0, e1 => cases e1
      | n + 2, e1 => (have := e1; simp at this; rcases n with _ | _ | _ | _ | _ | _ | _ | _ | _ | _ | _ | _ | _ | _ | _ | _ | n <;> simp at this)
    · subst e
      obtain ⟨_, p⟩ := r
      cases p
      exact q H'
end
end V66
/-! What the top has written. -/
namespace V66
open PySem PySem.Spec PyProof.Rows L2 TL RX VL
theorem all_mk {P : Program} {w : World} {K : PySem.W.Frag} {h : Heap} {mg : PySem.Str → Option Value} {fa : Addr} (X : K.In h) (G : h.Ns mainGlobals mg) (hfa : mg "law" = some (.ref fa))
    {fd0 : Addr} {odd0 and0 : Option Addr} {sld0 : Array (Option Value)} {ocd0 kVd0 dcd0 pmd0 cdd0 ctd0 : Value} {fd1 : Addr} {odd1 and1 : Option Addr} {sld1 : Array (Option Value)} {ocd1 kVd1 dcd1 pmd1 cdd1 ctd1 : Value} {fd2 : Addr} {odd2 and2 : Option Addr} {sld2 : Array (Option Value)} {ocd2 kVd2 dcd2 pmd2 cdd2 ctd2 : Value} {fd3 : Addr} {odd3 and3 : Option Addr} {sld3 : Array (Option Value)} {ocd3 kVd3 dcd3 pmd3 cdd3 ctd3 : Value} {fd4 : Addr} {odd4 and4 : Option Addr} {sld4 : Array (Option Value)} {ocd4 kVd4 dcd4 pmd4 cdd4 ctd4 : Value} {fd5 : Addr} {odd5 and5 : Option Addr} {sld5 : Array (Option Value)} {ocd5 kVd5 dcd5 pmd5 cdd5 ctd5 : Value} {fd6 : Addr} {odd6 and6 : Option Addr} {sld6 : Array (Option Value)} {ocd6 kVd6 dcd6 pmd6 cdd6 ctd6 : Value} {fd7 : Addr} {odd7 and7 : Option Addr} {sld7 : Array (Option Value)} {ocd7 kVd7 dcd7 pmd7 cdd7 ctd7 : Value} {fd8 : Addr} {odd8 and8 : Option Addr} {sld8 : Array (Option Value)} {ocd8 kVd8 dcd8 pmd8 cdd8 ctd8 : Value} {fd9 : Addr} {odd9 and9 : Option Addr} {sld9 : Array (Option Value)} {ocd9 kVd9 dcd9 pmd9 cdd9 ctd9 : Value} {fd10 : Addr} {odd10 and10 : Option Addr} {sld10 : Array (Option Value)} {ocd10 kVd10 dcd10 pmd10 cdd10 ctd10 : Value} {fd11 : Addr} {odd11 and11 : Option Addr} {sld11 : Array (Option Value)} {ocd11 kVd11 dcd11 pmd11 cdd11 ctd11 : Value} {fd12 : Addr} {odd12 and12 : Option Addr} {sld12 : Array (Option Value)} {ocd12 kVd12 dcd12 pmd12 cdd12 ctd12 : Value} {fd13 : Addr} {odd13 and13 : Option Addr} {sld13 : Array (Option Value)} {ocd13 kVd13 dcd13 pmd13 cdd13 ctd13 : Value} {fd14 : Addr} {odd14 and14 : Option Addr} {sld14 : Array (Option Value)} {ocd14 kVd14 dcd14 pmd14 cdd14 ctd14 : Value} {fd15 : Addr} {odd15 and15 : Option Addr} {sld15 : Array (Option Value)} {ocd15 kVd15 dcd15 pmd15 cdd15 ctd15 : Value} {fd16 : Addr} {odd16 and16 : Option Addr} {sld16 : Array (Option Value)} {ocd16 kVd16 dcd16 pmd16 cdd16 ctd16 : Value} {fd17 : Addr} {odd17 and17 : Option Addr} {sld17 : Array (Option Value)} {ocd17 kVd17 dcd17 pmd17 cdd17 ctd17 : Value} {fd18 : Addr} {odd18 and18 : Option Addr} {sld18 : Array (Option Value)} {ocd18 kVd18 dcd18 pmd18 cdd18 ctd18 : Value} {fd19 : Addr} {odd19 and19 : Option Addr} {sld19 : Array (Option Value)} {ocd19 kVd19 dcd19 pmd19 cdd19 ctd19 : Value} {fd20 : Addr} {odd20 and20 : Option Addr} {sld20 : Array (Option Value)} {ocd20 kVd20 dcd20 pmd20 cdd20 ctd20 : Value} {fd21 : Addr} {odd21 and21 : Option Addr} {sld21 : Array (Option Value)} {ocd21 kVd21 dcd21 pmd21 cdd21 ctd21 : Value} {fd22 : Addr} {odd22 and22 : Option Addr} {sld22 : Array (Option Value)} {ocd22 kVd22 dcd22 pmd22 cdd22 ctd22 : Value} {fd23 : Addr} {odd23 and23 : Option Addr} {sld23 : Array (Option Value)} {ocd23 kVd23 dcd23 pmd23 cdd23 ctd23 : Value} {tkc0 : Tok}
    (gd0 : PySem.W.nsIn K mainGlobals "pack_of" = some (some (.ref fd0)))
    (gd1 : PySem.W.nsIn K mainGlobals "files_of" = some (some (.ref fd1)))
    (gd2 : PySem.W.nsIn K mainGlobals "tree_of" = some (some (.ref fd2)))
    (gd3 : PySem.W.nsIn K mainGlobals "tree_on" = some (some (.ref fd3)))
    (gd4 : PySem.W.nsIn K mainGlobals "steps_between" = some (some (.ref fd4)))
    (gd5 : PySem.W.nsIn K mainGlobals "_law_bag" = some (some (.ref fd5)))
    (gd6 : PySem.W.nsIn K mainGlobals "_law_take" = some (some (.ref fd6)))
    (gd7 : PySem.W.nsIn K mainGlobals "_law_one" = some (some (.ref fd7)))
    (gd8 : PySem.W.nsIn K mainGlobals "_law_mixed" = some (some (.ref fd8)))
    (gd9 : PySem.W.nsIn K mainGlobals "_law_alike" = some (some (.ref fd9)))
    (gd10 : PySem.W.nsIn K mainGlobals "_law_versions" = some (some (.ref fd10)))
    (gd11 : PySem.W.nsIn K mainGlobals "_law_number_of" = some (some (.ref fd11)))
    (gd12 : PySem.W.nsIn K mainGlobals "_law_numbers" = some (some (.ref fd12)))
    (gd13 : PySem.W.nsIn K mainGlobals "_law_tree_of" = some (some (.ref fd13)))
    (gd14 : PySem.W.nsIn K mainGlobals "_law_tree_on" = some (some (.ref fd14)))
    (gd15 : PySem.W.nsIn K mainGlobals "_law_steps" = some (some (.ref fd15)))
    (gd16 : PySem.W.nsIn K mainGlobals "_law_log_text" = some (some (.ref fd16)))
    (gd17 : PySem.W.nsIn K mainGlobals "_law_lock_text" = some (some (.ref fd17)))
    (gd18 : PySem.W.nsIn K mainGlobals "_law_small_packs" = some (some (.ref fd18)))
    (gd19 : PySem.W.nsIn K mainGlobals "_law_some_plan" = some (some (.ref fd19)))
    (gd20 : PySem.W.nsIn K mainGlobals "_law_drawn_log" = some (some (.ref fd20)))
    (gd21 : PySem.W.nsIn K mainGlobals "_law_drawn_files" = some (some (.ref fd21)))
    (gd22 : PySem.W.nsIn K mainGlobals "_law_stepped" = some (some (.ref fd22)))
    (gd23 : PySem.W.nsIn K mainGlobals "law" = some (some (.ref fd23)))
    (ld0 : K.lookup fd0 = some ⟨ocd0, odd0, .func (PySem.W.fnOf "pack_of" "pack_of" (defArgs S_pack_of) (defBody S_pack_of) (defScope S_pack_of) .none kVd0 dcd0 pmd0 and0 cdd0 ctd0), sld0⟩)
    (ld1 : K.lookup fd1 = some ⟨ocd1, odd1, .func (PySem.W.fnOf "files_of" "files_of" (defArgs S_files_of) (defBody S_files_of) (defScope S_files_of) .none kVd1 dcd1 pmd1 and1 cdd1 ctd1), sld1⟩)
    (ld2 : K.lookup fd2 = some ⟨ocd2, odd2, .func (PySem.W.fnOf "tree_of" "tree_of" (defArgs S_tree_of) (defBody S_tree_of) (defScope S_tree_of) .none kVd2 dcd2 pmd2 and2 cdd2 ctd2), sld2⟩)
    (ld3 : K.lookup fd3 = some ⟨ocd3, odd3, .func (PySem.W.fnOf "tree_on" "tree_on" (defArgs S_tree_on) (defBody S_tree_on) (defScope S_tree_on) .none kVd3 dcd3 pmd3 and3 cdd3 ctd3), sld3⟩)
    (ld4 : K.lookup fd4 = some ⟨ocd4, odd4, .func (PySem.W.fnOf "steps_between" "steps_between" (defArgs S_steps_between) (defBody S_steps_between) (defScope S_steps_between) .none kVd4 dcd4 pmd4 and4 cdd4 ctd4), sld4⟩)
    (ld5 : K.lookup fd5 = some ⟨ocd5, odd5, .func (PySem.W.fnOf "_law_bag" "_law_bag" (defArgs S__law_bag) (defBody S__law_bag) (defScope S__law_bag) .none kVd5 dcd5 pmd5 and5 cdd5 ctd5), sld5⟩)
    (ld6 : K.lookup fd6 = some ⟨ocd6, odd6, .func (PySem.W.fnOf "_law_take" "_law_take" (defArgs S__law_take) (defBody S__law_take) (defScope S__law_take) .none kVd6 dcd6 pmd6 and6 cdd6 ctd6), sld6⟩)
    (ld7 : K.lookup fd7 = some ⟨ocd7, odd7, .func (PySem.W.fnOf "_law_one" "_law_one" (defArgs S__law_one) (defBody S__law_one) (defScope S__law_one) .none kVd7 dcd7 pmd7 and7 cdd7 ctd7), sld7⟩)
    (ld8 : K.lookup fd8 = some ⟨ocd8, odd8, .func (PySem.W.fnOf "_law_mixed" "_law_mixed" (defArgs S__law_mixed) (defBody S__law_mixed) (defScope S__law_mixed) .none kVd8 dcd8 pmd8 and8 cdd8 ctd8), sld8⟩)
    (ld9 : K.lookup fd9 = some ⟨ocd9, odd9, .func (PySem.W.fnOf "_law_alike" "_law_alike" (defArgs S__law_alike) (defBody S__law_alike) (defScope S__law_alike) .none kVd9 dcd9 pmd9 and9 cdd9 ctd9), sld9⟩)
    (ld10 : K.lookup fd10 = some ⟨ocd10, odd10, .func (PySem.W.fnOf "_law_versions" "_law_versions" (defArgs S__law_versions) (defBody S__law_versions) (defScope S__law_versions) .none kVd10 dcd10 pmd10 and10 cdd10 ctd10), sld10⟩)
    (ld11 : K.lookup fd11 = some ⟨ocd11, odd11, .func (PySem.W.fnOf "_law_number_of" "_law_number_of" (defArgs S__law_number_of) (defBody S__law_number_of) (defScope S__law_number_of) .none kVd11 dcd11 pmd11 and11 cdd11 ctd11), sld11⟩)
    (ld12 : K.lookup fd12 = some ⟨ocd12, odd12, .func (PySem.W.fnOf "_law_numbers" "_law_numbers" (defArgs S__law_numbers) (defBody S__law_numbers) (defScope S__law_numbers) .none kVd12 dcd12 pmd12 and12 cdd12 ctd12), sld12⟩)
    (ld13 : K.lookup fd13 = some ⟨ocd13, odd13, .func (PySem.W.fnOf "_law_tree_of" "_law_tree_of" (defArgs S__law_tree_of) (defBody S__law_tree_of) (defScope S__law_tree_of) .none kVd13 dcd13 pmd13 and13 cdd13 ctd13), sld13⟩)
    (ld14 : K.lookup fd14 = some ⟨ocd14, odd14, .func (PySem.W.fnOf "_law_tree_on" "_law_tree_on" (defArgs S__law_tree_on) (defBody S__law_tree_on) (defScope S__law_tree_on) .none kVd14 dcd14 pmd14 and14 cdd14 ctd14), sld14⟩)
    (ld15 : K.lookup fd15 = some ⟨ocd15, odd15, .func (PySem.W.fnOf "_law_steps" "_law_steps" (defArgs S__law_steps) (defBody S__law_steps) (defScope S__law_steps) .none kVd15 dcd15 pmd15 and15 cdd15 ctd15), sld15⟩)
    (ld16 : K.lookup fd16 = some ⟨ocd16, odd16, .func (PySem.W.fnOf "_law_log_text" "_law_log_text" (defArgs S__law_log_text) (defBody S__law_log_text) (defScope S__law_log_text) .none kVd16 dcd16 pmd16 and16 cdd16 ctd16), sld16⟩)
    (ld17 : K.lookup fd17 = some ⟨ocd17, odd17, .func (PySem.W.fnOf "_law_lock_text" "_law_lock_text" (defArgs S__law_lock_text) (defBody S__law_lock_text) (defScope S__law_lock_text) .none kVd17 dcd17 pmd17 and17 cdd17 ctd17), sld17⟩)
    (ld18 : K.lookup fd18 = some ⟨ocd18, odd18, .func (PySem.W.fnOf "_law_small_packs" "_law_small_packs" (defArgs S__law_small_packs) (defBody S__law_small_packs) (defScope S__law_small_packs) .none kVd18 dcd18 pmd18 and18 cdd18 ctd18), sld18⟩)
    (ld19 : K.lookup fd19 = some ⟨ocd19, odd19, .func (PySem.W.fnOf "_law_some_plan" "_law_some_plan" (defArgs S__law_some_plan) (defBody S__law_some_plan) (defScope S__law_some_plan) .none kVd19 dcd19 pmd19 and19 cdd19 ctd19), sld19⟩)
    (ld20 : K.lookup fd20 = some ⟨ocd20, odd20, .func (PySem.W.fnOf "_law_drawn_log" "_law_drawn_log" (defArgs S__law_drawn_log) (defBody S__law_drawn_log) (defScope S__law_drawn_log) .none kVd20 dcd20 pmd20 and20 cdd20 ctd20), sld20⟩)
    (ld21 : K.lookup fd21 = some ⟨ocd21, odd21, .func (PySem.W.fnOf "_law_drawn_files" "_law_drawn_files" (defArgs S__law_drawn_files) (defBody S__law_drawn_files) (defScope S__law_drawn_files) .none kVd21 dcd21 pmd21 and21 cdd21 ctd21), sld21⟩)
    (ld22 : K.lookup fd22 = some ⟨ocd22, odd22, .func (PySem.W.fnOf "_law_stepped" "_law_stepped" (defArgs S__law_stepped) (defBody S__law_stepped) (defScope S__law_stepped) .none kVd22 dcd22 pmd22 and22 cdd22 ctd22), sld22⟩)
    (ld23 : K.lookup fd23 = some ⟨ocd23, odd23, .func (PySem.W.fnOf "law" "law" (defArgs S_law) (defBody S_law) (defScope S_law) .none kVd23 dcd23 pmd23 and23 cdd23 ctd23), sld23⟩)
    (qc0 : PySem.W.nsIn K mainGlobals "TREE" = some (some (.str "tree/" tkc0)))
    (kd0 : (PySem.W.codeIn K cdd0 "pack_of" && PySem.W.keepIn K (.ref fd0)) = true)
    (kd1 : (PySem.W.codeIn K cdd1 "files_of" && PySem.W.keepIn K (.ref fd1)) = true)
    (kd2 : (PySem.W.codeIn K cdd2 "tree_of" && PySem.W.keepIn K (.ref fd2)) = true)
    (kd3 : (PySem.W.codeIn K cdd3 "tree_on" && PySem.W.keepIn K (.ref fd3)) = true)
    (kd4 : (PySem.W.codeIn K cdd4 "steps_between" && PySem.W.keepIn K (.ref fd4)) = true)
    (kd5 : (PySem.W.codeIn K cdd5 "_law_bag" && PySem.W.keepIn K (.ref fd5)) = true)
    (kd6 : (PySem.W.codeIn K cdd6 "_law_take" && PySem.W.keepIn K (.ref fd6)) = true)
    (kd7 : (PySem.W.codeIn K cdd7 "_law_one" && PySem.W.keepIn K (.ref fd7)) = true)
    (kd8 : (PySem.W.codeIn K cdd8 "_law_mixed" && PySem.W.keepIn K (.ref fd8)) = true)
    (kd9 : (PySem.W.codeIn K cdd9 "_law_alike" && PySem.W.keepIn K (.ref fd9)) = true)
    (kd10 : (PySem.W.codeIn K cdd10 "_law_versions" && PySem.W.keepIn K (.ref fd10)) = true)
    (kd11 : (PySem.W.codeIn K cdd11 "_law_number_of" && PySem.W.keepIn K (.ref fd11)) = true)
    (kd12 : (PySem.W.codeIn K cdd12 "_law_numbers" && PySem.W.keepIn K (.ref fd12)) = true)
    (kd13 : (PySem.W.codeIn K cdd13 "_law_tree_of" && PySem.W.keepIn K (.ref fd13)) = true)
    (kd14 : (PySem.W.codeIn K cdd14 "_law_tree_on" && PySem.W.keepIn K (.ref fd14)) = true)
    (kd15 : (PySem.W.codeIn K cdd15 "_law_steps" && PySem.W.keepIn K (.ref fd15)) = true)
    (kd16 : (PySem.W.codeIn K cdd16 "_law_log_text" && PySem.W.keepIn K (.ref fd16)) = true)
    (kd17 : (PySem.W.codeIn K cdd17 "_law_lock_text" && PySem.W.keepIn K (.ref fd17)) = true)
    (kd18 : (PySem.W.codeIn K cdd18 "_law_small_packs" && PySem.W.keepIn K (.ref fd18)) = true)
    (kd19 : (PySem.W.codeIn K cdd19 "_law_some_plan" && PySem.W.keepIn K (.ref fd19)) = true)
    (kd20 : (PySem.W.codeIn K cdd20 "_law_drawn_log" && PySem.W.keepIn K (.ref fd20)) = true)
    (kd21 : (PySem.W.codeIn K cdd21 "_law_drawn_files" && PySem.W.keepIn K (.ref fd21)) = true)
    (kd22 : (PySem.W.codeIn K cdd22 "_law_stepped" && PySem.W.keepIn K (.ref fd22)) = true)
    (kd23 : (PySem.W.codeIn K cdd23 "law" && PySem.W.keepIn K (.ref fd23)) = true)
    (BN : ([("len" : PySem.Str), ("str" : PySem.Str), ("int" : PySem.Str), ("tuple" : PySem.Str), ("list" : PySem.Str), ("dict" : PySem.Str), ("repr" : PySem.Str), ("sorted" : PySem.Str), ("set" : PySem.Str), ("range" : PySem.Str), ("abs" : PySem.Str), ("reversed" : PySem.Str)].all fun x => PySem.W.nsIn K mainGlobals x == some none) = true) :
    ∃ fd : FuncData, (∀ (s : Shared) (v : Value), BindsTo s fd ⟨[v], []⟩ [("script", v)]) ∧ ∀ base : Heap, K.In base → base.Ns mainGlobals mg → Ok0 P w K mg base 5 fa fd ["script"] (spLaw K) := by
  have e := hfa.symm.trans (PySem.W.mg_of X G gd23); cases e
  have nn : ∀ x : PySem.Str, x ∈ [("len" : PySem.Str), ("str" : PySem.Str), ("int" : PySem.Str), ("tuple" : PySem.Str), ("list" : PySem.Str), ("dict" : PySem.Str), ("repr" : PySem.Str), ("sorted" : PySem.Str), ("set" : PySem.Str), ("range" : PySem.Str), ("abs" : PySem.Str), ("reversed" : PySem.Str)] → mg x = none := fun x hx => PySem.W.mg_none_of X G (beq_iff_eq.mp (List.all_eq_true.mp BN x hx))
  have kd0' := Bool.and_eq_true_iff.mp kd0
  have Fd0 := fun_mk (st := S_pack_of) ld0 kd0'.1 kd0'.2
  have bd0 := Fd0.binds (ps := ["registry", "name", "version"]) fun _ _ _ _ _ _ us hl => match us, hl with | [_, _, _], _ => rfl
  have kd1' := Bool.and_eq_true_iff.mp kd1
  have Fd1 := fun_mk (st := S_files_of) ld1 kd1'.1 kd1'.2
  have bd1 := Fd1.binds (ps := ["pack"]) fun _ _ _ _ _ _ us hl => match us, hl with | [_], _ => rfl
  have kd2' := Bool.and_eq_true_iff.mp kd2
  have Fd2 := fun_mk (st := S_tree_of) ld2 kd2'.1 kd2'.2
  have bd2 := Fd2.binds (ps := ["registry", "plan"]) fun _ _ _ _ _ _ us hl => match us, hl with | [_, _], _ => rfl
  have kd3' := Bool.and_eq_true_iff.mp kd3
  have Fd3 := fun_mk (st := S_tree_on) ld3 kd3'.1 kd3'.2
  have bd3 := Fd3.binds (ps := ["files"]) fun _ _ _ _ _ _ us hl => match us, hl with | [_], _ => rfl
  have kd4' := Bool.and_eq_true_iff.mp kd4
  have Fd4 := fun_mk (st := S_steps_between) ld4 kd4'.1 kd4'.2
  have bd4 := Fd4.binds (ps := ["old", "new"]) fun _ _ _ _ _ _ us hl => match us, hl with | [_, _], _ => rfl
  have kd5' := Bool.and_eq_true_iff.mp kd5
  have Fd5 := fun_mk (st := S__law_bag) ld5 kd5'.1 kd5'.2
  have bd5 := Fd5.binds (ps := ["script"]) fun _ _ _ _ _ _ us hl => match us, hl with | [_], _ => rfl
  have kd6' := Bool.and_eq_true_iff.mp kd6
  have Fd6 := fun_mk (st := S__law_take) ld6 kd6'.1 kd6'.2
  have bd6 := Fd6.binds (ps := ["bag", "many"]) fun _ _ _ _ _ _ us hl => match us, hl with | [_, _], _ => rfl
  have kd7' := Bool.and_eq_true_iff.mp kd7
  have Fd7 := fun_mk (st := S__law_one) ld7 kd7'.1 kd7'.2
  have bd7 := Fd7.binds (ps := ["bag", "things"]) fun _ _ _ _ _ _ us hl => match us, hl with | [_, _], _ => rfl
  have kd8' := Bool.and_eq_true_iff.mp kd8
  have Fd8 := fun_mk (st := S__law_mixed) ld8 kd8'.1 kd8'.2
  have bd8 := Fd8.binds (ps := ["bag", "things"]) fun _ _ _ _ _ _ us hl => match us, hl with | [_, _], _ => rfl
  have kd9' := Bool.and_eq_true_iff.mp kd9
  have Fd9 := fun_mk (st := S__law_alike) ld9 kd9'.1 kd9'.2
  have bd9 := Fd9.binds (ps := ["found", "due"]) fun _ _ _ _ _ _ us hl => match us, hl with | [_, _], _ => rfl
  have kd10' := Bool.and_eq_true_iff.mp kd10
  have Fd10 := fun_mk (st := S__law_versions) ld10 kd10'.1 kd10'.2
  have bd10 := Fd10.binds (ps := ["bag", "many"]) fun _ _ _ _ _ _ us hl => match us, hl with | [_, _], _ => rfl
  have kd11' := Bool.and_eq_true_iff.mp kd11
  have Fd11 := fun_mk (st := S__law_number_of) ld11 kd11'.1 kd11'.2
  have bd11 := Fd11.binds (ps := ["path", "head"]) fun _ _ _ _ _ _ us hl => match us, hl with | [_, _], _ => rfl
  have kd12' := Bool.and_eq_true_iff.mp kd12
  have Fd12 := fun_mk (st := S__law_numbers) ld12 kd12'.1 kd12'.2
  have bd12 := Fd12.binds (ps := ["files", "head"]) fun _ _ _ _ _ _ us hl => match us, hl with | [_, _], _ => rfl
  have kd13' := Bool.and_eq_true_iff.mp kd13
  have Fd13 := fun_mk (st := S__law_tree_of) ld13 kd13'.1 kd13'.2
  have bd13 := Fd13.binds (ps := ["registry", "plan"]) fun _ _ _ _ _ _ us hl => match us, hl with | [_, _], _ => rfl
  have kd14' := Bool.and_eq_true_iff.mp kd14
  have Fd14 := fun_mk (st := S__law_tree_on) ld14 kd14'.1 kd14'.2
  have bd14 := Fd14.binds (ps := ["files"]) fun _ _ _ _ _ _ us hl => match us, hl with | [_], _ => rfl
  have kd15' := Bool.and_eq_true_iff.mp kd15
  have Fd15 := fun_mk (st := S__law_steps) ld15 kd15'.1 kd15'.2
  have bd15 := Fd15.binds (ps := ["old", "new"]) fun _ _ _ _ _ _ us hl => match us, hl with | [_, _], _ => rfl
  have kd16' := Bool.and_eq_true_iff.mp kd16
  have Fd16 := fun_mk (st := S__law_log_text) ld16 kd16'.1 kd16'.2
  have bd16 := Fd16.binds (ps := ["log"]) fun _ _ _ _ _ _ us hl => match us, hl with | [_], _ => rfl
  have kd17' := Bool.and_eq_true_iff.mp kd17
  have Fd17 := fun_mk (st := S__law_lock_text) ld17 kd17'.1 kd17'.2
  have bd17 := Fd17.binds (ps := ["plan"]) fun _ _ _ _ _ _ us hl => match us, hl with | [_], _ => rfl
  have kd18' := Bool.and_eq_true_iff.mp kd18
  have Fd18 := fun_mk (st := S__law_small_packs) ld18 kd18'.1 kd18'.2
  have bd18 := Fd18.binds (ps := ["bag"]) fun _ _ _ _ _ _ us hl => match us, hl with | [_], _ => rfl
  have kd19' := Bool.and_eq_true_iff.mp kd19
  have Fd19 := fun_mk (st := S__law_some_plan) ld19 kd19'.1 kd19'.2
  have bd19 := Fd19.binds (ps := ["bag", "registry"]) fun _ _ _ _ _ _ us hl => match us, hl with | [_, _], _ => rfl
  have kd20' := Bool.and_eq_true_iff.mp kd20
  have Fd20 := fun_mk (st := S__law_drawn_log) ld20 kd20'.1 kd20'.2
  have bd20 := Fd20.binds (ps := ["bag", "files"]) fun _ _ _ _ _ _ us hl => match us, hl with | [_, _], _ => rfl
  have kd21' := Bool.and_eq_true_iff.mp kd21
  have Fd21 := fun_mk (st := S__law_drawn_files) ld21 kd21'.1 kd21'.2
  have bd21 := Fd21.binds (ps := ["bag", "registry"]) fun _ _ _ _ _ _ us hl => match us, hl with | [_, _], _ => rfl
  have kd22' := Bool.and_eq_true_iff.mp kd22
  have Fd22 := fun_mk (st := S__law_stepped) ld22 kd22'.1 kd22'.2
  have bd22 := Fd22.binds (ps := ["tree", "steps"]) fun _ _ _ _ _ _ us hl => match us, hl with | [_, _], _ => rfl
  have kd23' := Bool.and_eq_true_iff.mp kd23
  have Fd23 := fun_mk (st := S_law) ld23 kd23'.1 kd23'.2
  have bd23 := Fd23.binds (ps := ["script"]) fun _ _ _ _ _ _ us hl => match us, hl with | [_], _ => rfl
  exact ⟨PySem.W.fnOf "law" "law" (defArgs S_law) (defBody S_law) (defScope S_law) .none kVd23 dcd23 pmd23 and23 cdd23 ctd23, fun s v => .of_eq rfl, fun base _ _ => ok_law { a_pack_of := _, fd_pack_of := _, F_pack_of := Fd0, g_pack_of := PySem.W.mg_of X G gd0, b_pack_of := bd0, a_files_of := _, fd_files_of := _, F_files_of := Fd1, g_files_of := PySem.W.mg_of X G gd1, b_files_of := bd1, a_tree_of := _, fd_tree_of := _, F_tree_of := Fd2, g_tree_of := PySem.W.mg_of X G gd2, b_tree_of := bd2, a_tree_on := _, fd_tree_on := _, F_tree_on := Fd3, g_tree_on := PySem.W.mg_of X G gd3, b_tree_on := bd3, a_steps_between := _, fd_steps_between := _, F_steps_between := Fd4, g_steps_between := PySem.W.mg_of X G gd4, b_steps_between := bd4, a__law_bag := _, fd__law_bag := _, F__law_bag := Fd5, g__law_bag := PySem.W.mg_of X G gd5, b__law_bag := bd5, a__law_take := _, fd__law_take := _, F__law_take := Fd6, g__law_take := PySem.W.mg_of X G gd6, b__law_take := bd6, a__law_one := _, fd__law_one := _, F__law_one := Fd7, g__law_one := PySem.W.mg_of X G gd7, b__law_one := bd7, a__law_mixed := _, fd__law_mixed := _, F__law_mixed := Fd8, g__law_mixed := PySem.W.mg_of X G gd8, b__law_mixed := bd8, a__law_alike := _, fd__law_alike := _, F__law_alike := Fd9, g__law_alike := PySem.W.mg_of X G gd9, b__law_alike := bd9, a__law_versions := _, fd__law_versions := _, F__law_versions := Fd10, g__law_versions := PySem.W.mg_of X G gd10, b__law_versions := bd10, a__law_number_of := _, fd__law_number_of := _, F__law_number_of := Fd11, g__law_number_of := PySem.W.mg_of X G gd11, b__law_number_of := bd11, a__law_numbers := _, fd__law_numbers := _, F__law_numbers := Fd12, g__law_numbers := PySem.W.mg_of X G gd12, b__law_numbers := bd12, a__law_tree_of := _, fd__law_tree_of := _, F__law_tree_of := Fd13, g__law_tree_of := PySem.W.mg_of X G gd13, b__law_tree_of := bd13, a__law_tree_on := _, fd__law_tree_on := _, F__law_tree_on := Fd14, g__law_tree_on := PySem.W.mg_of X G gd14, b__law_tree_on := bd14, a__law_steps := _, fd__law_steps := _, F__law_steps := Fd15, g__law_steps := PySem.W.mg_of X G gd15, b__law_steps := bd15, a__law_log_text := _, fd__law_log_text := _, F__law_log_text := Fd16, g__law_log_text := PySem.W.mg_of X G gd16, b__law_log_text := bd16, a__law_lock_text := _, fd__law_lock_text := _, F__law_lock_text := Fd17, g__law_lock_text := PySem.W.mg_of X G gd17, b__law_lock_text := bd17, a__law_small_packs := _, fd__law_small_packs := _, F__law_small_packs := Fd18, g__law_small_packs := PySem.W.mg_of X G gd18, b__law_small_packs := bd18, a__law_some_plan := _, fd__law_some_plan := _, F__law_some_plan := Fd19, g__law_some_plan := PySem.W.mg_of X G gd19, b__law_some_plan := bd19, a__law_drawn_log := _, fd__law_drawn_log := _, F__law_drawn_log := Fd20, g__law_drawn_log := PySem.W.mg_of X G gd20, b__law_drawn_log := bd20, a__law_drawn_files := _, fd__law_drawn_files := _, F__law_drawn_files := Fd21, g__law_drawn_files := PySem.W.mg_of X G gd21, b__law_drawn_files := bd21, a__law_stepped := _, fd__law_stepped := _, F__law_stepped := Fd22, g__law_stepped := PySem.W.mg_of X G gd22, b__law_stepped := bd22, a_law := _, fd_law := _, F_law := Fd23, g_law := PySem.W.mg_of X G gd23, b_law := bd23, m_len := nn "len" (by decide +kernel), m_str := nn "str" (by decide +kernel), m_int := nn "int" (by decide +kernel), m_tuple := nn "tuple" (by decide +kernel), m_list := nn "list" (by decide +kernel), m_dict := nn "dict" (by decide +kernel), m_repr := nn "repr" (by decide +kernel), m_sorted := nn "sorted" (by decide +kernel), m_set := nn "set" (by decide +kernel), m_range := nn "range" (by decide +kernel), m_abs := nn "abs" (by decide +kernel), m_reversed := nn "reversed" (by decide +kernel), t_TREE := tkc0, c_TREE := PySem.W.mg_of X G qc0 }⟩
end V66
open PySem PySem.W PyProof.Rows
set_option maxHeartbeats 0 in
theorem PySem.Challenge.cw_packsworn_k66_trees_and_steps_holds : PySem.Challenge.rw_packsworn_k66_trees_and_steps.Holds := by
  w_on; o_law; k_head; (case hw => w_witness2)
  k_fill
  refine RX.walk_of0 (l := PySem.Challenge.rw_packsworn_k66_trees_and_steps) (n := 63) (k := 5) (x := "script") (sp := fun K => V66.spLaw K) rfl (by decide) rfl ⟨rfl, by decide, by decide⟩ (fun w h Y => PySem.W.kIn_of Y) ?F (fun _ _ a ns hl _ hS => ⟨a, ns, rfl, hS, hl, fun _ => rfl⟩)
  case F =>
    intro w mg fa h KX G hmg
    refine' V66.all_mk KX G hmg ?gd0 ?gd1 ?gd2 ?gd3 ?gd4 ?gd5 ?gd6 ?gd7 ?gd8 ?gd9 ?gd10 ?gd11 ?gd12 ?gd13 ?gd14 ?gd15 ?gd16 ?gd17 ?gd18 ?gd19 ?gd20 ?gd21 ?gd22 ?gd23 ?ld0 ?ld1 ?ld2 ?ld3 ?ld4 ?ld5 ?ld6 ?ld7 ?ld8 ?ld9 ?ld10 ?ld11 ?ld12 ?ld13 ?ld14 ?ld15 ?ld16 ?ld17 ?ld18 ?ld19 ?ld20 ?ld21 ?ld22 ?ld23 ?qc0 ?kd0 ?kd1 ?kd2 ?kd3 ?kd4 ?kd5 ?kd6 ?kd7 ?kd8 ?kd9 ?kd10 ?kd11 ?kd12 ?kd13 ?kd14 ?kd15 ?kd16 ?kd17 ?kd18 ?kd19 ?kd20 ?kd21 ?kd22 ?kd23 ?BN
    (case gd0 => first | k_is | k_exc | kernel_rfl)
    (case gd1 => first | k_is | k_exc | kernel_rfl)
    (case gd2 => first | k_is | k_exc | kernel_rfl)
    (case gd3 => first | k_is | k_exc | kernel_rfl)
    (case gd4 => first | k_is | k_exc | kernel_rfl)
    (case gd5 => first | k_is | k_exc | kernel_rfl)
    (case gd6 => first | k_is | k_exc | kernel_rfl)
    (case gd7 => first | k_is | k_exc | kernel_rfl)
    (case gd8 => first | k_is | k_exc | kernel_rfl)
    (case gd9 => first | k_is | k_exc | kernel_rfl)
    (case gd10 => first | k_is | k_exc | kernel_rfl)
    (case gd11 => first | k_is | k_exc | kernel_rfl)
    (case gd12 => first | k_is | k_exc | kernel_rfl)
    (case gd13 => first | k_is | k_exc | kernel_rfl)
    (case gd14 => first | k_is | k_exc | kernel_rfl)
    (case gd15 => first | k_is | k_exc | kernel_rfl)
    (case gd16 => first | k_is | k_exc | kernel_rfl)
    (case gd17 => first | k_is | k_exc | kernel_rfl)
    (case gd18 => first | k_is | k_exc | kernel_rfl)
    (case gd19 => first | k_is | k_exc | kernel_rfl)
    (case gd20 => first | k_is | k_exc | kernel_rfl)
    (case gd21 => first | k_is | k_exc | kernel_rfl)
    (case gd22 => first | k_is | k_exc | kernel_rfl)
    (case gd23 => first | k_is | k_exc | kernel_rfl)
    (case ld0 => first | k_is | k_exc | kernel_rfl)
    (case ld1 => first | k_is | k_exc | kernel_rfl)
    (case ld2 => first | k_is | k_exc | kernel_rfl)
    (case ld3 => first | k_is | k_exc | kernel_rfl)
    (case ld4 => first | k_is | k_exc | kernel_rfl)
    (case ld5 => first | k_is | k_exc | kernel_rfl)
    (case ld6 => first | k_is | k_exc | kernel_rfl)
    (case ld7 => first | k_is | k_exc | kernel_rfl)
    (case ld8 => first | k_is | k_exc | kernel_rfl)
    (case ld9 => first | k_is | k_exc | kernel_rfl)
    (case ld10 => first | k_is | k_exc | kernel_rfl)
    (case ld11 => first | k_is | k_exc | kernel_rfl)
    (case ld12 => first | k_is | k_exc | kernel_rfl)
    (case ld13 => first | k_is | k_exc | kernel_rfl)
    (case ld14 => first | k_is | k_exc | kernel_rfl)
    (case ld15 => first | k_is | k_exc | kernel_rfl)
    (case ld16 => first | k_is | k_exc | kernel_rfl)
    (case ld17 => first | k_is | k_exc | kernel_rfl)
    (case ld18 => first | k_is | k_exc | kernel_rfl)
    (case ld19 => first | k_is | k_exc | kernel_rfl)
    (case ld20 => first | k_is | k_exc | kernel_rfl)
    (case ld21 => first | k_is | k_exc | kernel_rfl)
    (case ld22 => first | k_is | k_exc | kernel_rfl)
    (case ld23 => first | k_is | k_exc | kernel_rfl)
    (case qc0 => first | k_is | k_exc | kernel_rfl)
    (case kd0 => first | k_is | k_exc | kernel_rfl)
    (case kd1 => first | k_is | k_exc | kernel_rfl)
    (case kd2 => first | k_is | k_exc | kernel_rfl)
    (case kd3 => first | k_is | k_exc | kernel_rfl)
    (case kd4 => first | k_is | k_exc | kernel_rfl)
    (case kd5 => first | k_is | k_exc | kernel_rfl)
    (case kd6 => first | k_is | k_exc | kernel_rfl)
    (case kd7 => first | k_is | k_exc | kernel_rfl)
    (case kd8 => first | k_is | k_exc | kernel_rfl)
    (case kd9 => first | k_is | k_exc | kernel_rfl)
    (case kd10 => first | k_is | k_exc | kernel_rfl)
    (case kd11 => first | k_is | k_exc | kernel_rfl)
    (case kd12 => first | k_is | k_exc | kernel_rfl)
    (case kd13 => first | k_is | k_exc | kernel_rfl)
    (case kd14 => first | k_is | k_exc | kernel_rfl)
    (case kd15 => first | k_is | k_exc | kernel_rfl)
    (case kd16 => first | k_is | k_exc | kernel_rfl)
    (case kd17 => first | k_is | k_exc | kernel_rfl)
    (case kd18 => first | k_is | k_exc | kernel_rfl)
    (case kd19 => first | k_is | k_exc | kernel_rfl)
    (case kd20 => first | k_is | k_exc | kernel_rfl)
    (case kd21 => first | k_is | k_exc | kernel_rfl)
    (case kd22 => first | k_is | k_exc | kernel_rfl)
    (case kd23 => first | k_is | k_exc | kernel_rfl)
    (case BN => first | k_is | k_exc | kernel_rfl)
