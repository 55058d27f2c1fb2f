import PyProof.Rows.All
import Wide.All
import OpenK.AllK
import Wide.FinOn
import PyProof.ReprReads
import PyProof.FitsInt
import KE.KExcIs
import HandS.ForMost
import HandS.ForExc
import HandS.ExcInit
import HandS.ExcOwn
import HandS.ExcValue
import HandS.DeepEq
import HandS.IsInst
import HandS.TupAny
import HandS.Conv
import HandS.Style
import HandS.FStrTup
import HandS.Codes
import PyProof.CallFns
import HandS.TupSets
import HandS.Strs
import HandS.DictTup
import KE.KItemsList
import KE.KEqNest
import HandS.More
import HandS.DictComp
import HandS.Walk
import HandS.Text
import HandS.FltList
import HandS.FStr
import HandS.Deep
import PyProof.P3In
import HandS.WordsExc
import HandS.Small
import HandS.TryMany
import HandS.ExcField
import PySem.Challenge.RW_packsworn_k49_locks_shown_and_read
set_option Elab.async false
set_option linter.all false
set_option maxRecDepth 100000
set_option maxHeartbeats 16000000
/-! What a value prints as, over the abstract heap: one relation over lists of values. -/
namespace V9
open PySem PySem.Spec PyProof.Rows L2

/-- the texts that some values print as: depth at most d, the objects as that are met, the texts, what they cost -/
inductive Shw (H : Hp) : List V → Nat → List Addr → List Str → Nat → Prop
  | nil {d : Nat} : Shw H [] d [] [] 0
  | non {vs d as ts c} (r : Shw H vs d as ts c) : Shw H (.non :: vs) d as ("None" :: ts) (10 + c)
  | bl {vs d as ts c} (b : Bool) (r : Shw H vs d as ts c) : Shw H (.bl b :: vs) d as ((if b then "True" else "False" : String) :: ts) (10 + c)
  | int {vs d as ts c} (i : Int) (hi : i.natAbs < 10 ^ 60) (r : Shw H vs d as ts c) : Shw H (.int i :: vs) d as (toString i :: ts) (70 + c)
  | str {vs d as ts c} (x : Str) (hx : x.length ≤ 100) (hc : ∀ k ∈ x.cps.toList, k < 16 ^ 8) (r : Shw H vs d as ts c) : Shw H (.str x :: vs) d as (reprText x :: ts) (1010 + c)
  | strL {vs d as ts c} (x : Str) (hx : x.length ≤ 5000) (hc : ∀ k ∈ x.cps.toList, k < 16 ^ 8) (r : Shw H vs d as ts c) : Shw H (.str x :: vs) d as (reprText x :: ts) (50010 + c)
  | lst {vs d as ts c a xs bs us e} (h : H a = some (.lst xs)) (q : Shw H xs d bs us e) (hn : a ∉ bs) (r : Shw H vs (d + 1) as ts c) : Shw H (.ref a :: vs) (d + 1) ((a :: bs) ++ as) (listText us :: ts) (10 + e + c)
  | tup {vs d as ts c a xs bs us e} (h : H a = some (.tup xs)) (q : Shw H xs d bs us e) (hn : a ∉ bs) (r : Shw H vs (d + 1) as ts c) : Shw H (.ref a :: vs) (d + 1) ((a :: bs) ++ as) (tupleText us :: ts) (10 + e + c)
  | dic {vs d as ts c a bs us e} (ks : List (Str × V)) (h : H a = some (.dK (ks.map fun p => (Sum.inr p.1, p.2)))) (hk : ∀ p ∈ ks, p.1.length ≤ 100 ∧ ∀ k ∈ p.1.cps.toList, k < 16 ^ 8)
      (q : Shw H (ks.map (·.2)) d bs us e) (hn : a ∉ bs) (r : Shw H vs (d + 1) as ts c) :
      Shw H (.ref a :: vs) (d + 1) ((a :: bs) ++ as) (dictText (List.zipWith (fun p u => reprText p.1 ++ ": " ++ u) ks us) :: ts) (10 + 1010 * ks.length + e + c)

variable {H H' : Hp} {vs ws : List V} {d d' : Nat} {as bs : List Addr} {ts us : List Str} {c e : Nat}
theorem Shw.len (h : Shw H vs d as ts c) : ts.length = vs.length := by
  induction h with
  | nil => rfl
  | _ => simp_all
theorem Shw.there (h : Shw H vs d as ts c) : ∀ b ∈ as, ∃ o, H b = some o := by
  induction h with
  | nil => intro b hb; cases hb
  | non r ih => exact ih
  | bl b r ih => exact ih
  | int i hi r ih => exact ih
  | str x hx hc r ih => exact ih
  | strL x hx hc r ih => exact ih
  | lst h q hn r i1 i2 =>
    intro b hb
    rcases List.mem_append.mp hb with z | z
    · rcases List.mem_cons.mp z with y | y
      · exact ⟨_, y ▸ h⟩
      · exact i1 b y
    · exact i2 b z
  | tup h q hn r i1 i2 =>
    intro b hb
    rcases List.mem_append.mp hb with z | z
    · rcases List.mem_cons.mp z with y | y
      · exact ⟨_, y ▸ h⟩
      · exact i1 b y
    · exact i2 b z
  | dic ks h hk q hn r i1 i2 =>
    intro b hb
    rcases List.mem_append.mp hb with z | z
    · rcases List.mem_cons.mp z with y | y
      · exact ⟨_, y ▸ h⟩
      · exact i1 b y
    · exact i2 b z
theorem Shw.fresh {p : Addr} (h : Shw H vs d as ts c) (hp : H p = none) : p ∉ as := fun hm => by
  obtain ⟨o, e⟩ := h.there p hm
  rw [hp] at e; cases e
/-- what is kept at the objects that are met -/
theorem Shw.keep (h : Shw H vs d as ts c) : (∀ b ∈ as, ∀ o, H b = some o → H' b = some o) → Shw H' vs d as ts c := by
  induction h with
  | nil => intro _; exact .nil
  | non r ih => intro k; exact .non (ih k)
  | bl b r ih => intro k; exact .bl b (ih k)
  | int i hi r ih => intro k; exact .int i hi (ih k)
  | str x hx hc r ih => intro k; exact .str x hx hc (ih k)
  | strL x hx hc r ih => intro k; exact .strL x hx hc (ih k)
  | lst h q hn r i1 i2 =>
    intro k
    exact .lst (k _ (List.mem_append_left _ List.mem_cons_self) _ h) (i1 fun b hb => k b (List.mem_append_left _ (List.mem_cons_of_mem _ hb))) hn (i2 fun b hb => k b (List.mem_append_right _ hb))
  | tup h q hn r i1 i2 =>
    intro k
    exact .tup (k _ (List.mem_append_left _ List.mem_cons_self) _ h) (i1 fun b hb => k b (List.mem_append_left _ (List.mem_cons_of_mem _ hb))) hn (i2 fun b hb => k b (List.mem_append_right _ hb))
  | dic ks h hk q hn r i1 i2 =>
    intro k
    exact .dic ks (k _ (List.mem_append_left _ List.mem_cons_self) _ h) hk (i1 fun b hb => k b (List.mem_append_left _ (List.mem_cons_of_mem _ hb))) hn (i2 fun b hb => k b (List.mem_append_right _ hb))
theorem Shw.up1 (h : Shw H vs d as ts c) : Shw H vs (d + 1) as ts c := by
  induction h with
  | nil => exact .nil
  | non r ih => exact .non ih
  | bl b r ih => exact .bl b ih
  | int i hi r ih => exact .int i hi ih
  | str x hx hc r ih => exact .str x hx hc ih
  | strL x hx hc r ih => exact .strL x hx hc ih
  | lst h q hn r i1 i2 => exact .lst h i1 hn i2
  | tup h q hn r i1 i2 => exact .tup h i1 hn i2
  | dic ks h hk q hn r i1 i2 => exact .dic ks h hk i1 hn i2
theorem Shw.up (h : Shw H vs d as ts c) (hd : d ≤ d') : Shw H vs d' as ts c := by
  induction hd with
  | refl => exact h
  | step _ ih => exact ih.up1
/-- one more in front -/
theorem Shw.cons1 {v : V} (h : Shw H [v] d as ts c) : Shw H ws d bs us e → Shw H (v :: ws) d (as ++ bs) (ts ++ us) (c + e) := by
  intro q
  generalize hv : [v] = vs at h
  cases h with
  | nil => cases hv
  | non r => cases hv; cases r; simpa using Shw.non q
  | bl b r => cases hv; cases r; simpa using Shw.bl b q
  | int i hi r => cases hv; cases r; simpa using Shw.int i hi q
  | str x hx hc r => cases hv; cases r; simpa using Shw.str x hx hc q
  | strL x hx hc r => cases hv; cases r; simpa using Shw.strL x hx hc q
  | lst h p hn r => cases hv; cases r; simpa using Shw.lst h p hn q
  | tup h p hn r => cases hv; cases r; simpa using Shw.tup h p hn q
  | dic ks h hk p hn r => cases hv; cases r; simpa using Shw.dic ks h hk p hn q
/-- each of them alone -/
theorem Shw.each (h : Shw H vs d as ts c) : ∀ v ∈ vs, ∃ as t e, Shw H [v] d as [t] e ∧ e ≤ c := by
  induction h with
  | nil => intro v hv; cases hv
  | non r ih =>
    intro v hv
    rcases List.mem_cons.mp hv with z | z
    · subst z
      exact ⟨_, _, _, Shw.non Shw.nil, by omega⟩
    · obtain ⟨as, t, e, q, l⟩ := ih v z
      exact ⟨as, t, e, q, by omega⟩
  | bl b r ih =>
    intro v hv
    rcases List.mem_cons.mp hv with z | z
    · subst z
      exact ⟨_, _, _, Shw.bl b Shw.nil, by omega⟩
    · obtain ⟨as, t, e, q, l⟩ := ih v z
      exact ⟨as, t, e, q, by omega⟩
  | int i hi r ih =>
    intro v hv
    rcases List.mem_cons.mp hv with z | z
    · subst z
      exact ⟨_, _, _, Shw.int i hi Shw.nil, by omega⟩
    · obtain ⟨as, t, e, q, l⟩ := ih v z
      exact ⟨as, t, e, q, by omega⟩
  | str x hx hc r ih =>
    intro v hv
    rcases List.mem_cons.mp hv with z | z
    · subst z
      exact ⟨_, _, _, Shw.str x hx hc Shw.nil, by omega⟩
    · obtain ⟨as, t, e, q, l⟩ := ih v z
      exact ⟨as, t, e, q, by omega⟩
  | strL x hx hc r ih =>
    intro v hv
    rcases List.mem_cons.mp hv with z | z
    · subst z
      exact ⟨_, _, _, Shw.strL x hx hc Shw.nil, by omega⟩
    · obtain ⟨as, t, e, q, l⟩ := ih v z
      exact ⟨as, t, e, q, by omega⟩
  | lst h q hn r i1 i2 =>
    intro v hv
    rcases List.mem_cons.mp hv with z | z
    · subst z
      exact ⟨_, _, _, Shw.lst h q hn Shw.nil, by omega⟩
    · obtain ⟨as, t, e, q, l⟩ := i2 v z
      exact ⟨as, t, e, q, by omega⟩
  | tup h q hn r i1 i2 =>
    intro v hv
    rcases List.mem_cons.mp hv with z | z
    · subst z
      exact ⟨_, _, _, Shw.tup h q hn Shw.nil, by omega⟩
    · obtain ⟨as, t, e, q, l⟩ := i2 v z
      exact ⟨as, t, e, q, by omega⟩
  | dic ks h hk q hn r i1 i2 =>
    intro v hv
    rcases List.mem_cons.mp hv with z | z
    · subst z
      exact ⟨_, _, _, Shw.dic ks h hk q hn Shw.nil, by omega⟩
    · obtain ⟨as, t, e, q, l⟩ := i2 v z
      exact ⟨as, t, e, q, by omega⟩
/-- what a value is of which all this is said -/
theorem Shw.kind {v : V} (h : Shw H [v] d as ts c) : flatB v = true ∨ ∃ a, v = .ref a := by
  generalize hv : [v] = vs at h
  cases h with
  | nil => cases hv
  | non r => cases hv; exact .inl rfl
  | bl b r => cases hv; exact .inl rfl
  | int i hi r => cases hv; exact .inl rfl
  | str x hx hc r => cases hv; exact .inl rfl
  | strL x hx hc r => cases hv; exact .inl rfl
  | lst h p hn r => cases hv; exact .inr ⟨_, rfl⟩
  | tup h p hn r => cases hv; exact .inr ⟨_, rfl⟩
  | dic ks h hk p hn r => cases hv; exact .inr ⟨_, rfl⟩
/-- v prints, at depth d at most, at cost B at most -/
def Pt (H : Hp) (d B : Nat) (v : V) : Prop := ∃ as t e, Shw H [v] d as [t] e ∧ e ≤ B
theorem Pt.mono {B B' : Nat} {v : V} (p : Pt H d B v) (hd : d ≤ d') (hB : B ≤ B') : Pt H d' B' v := by
  obtain ⟨as, t, e, q, l⟩ := p
  exact ⟨as, t, e, q.up hd, by omega⟩
theorem Pt.same {B : Nat} {v : V} (p : Pt H d B v) (k : ∀ b o, H b = some o → H' b = some o) : Pt H' d B v := by
  obtain ⟨as, t, e, q, l⟩ := p
  exact ⟨as, t, e, q.keep fun b _ => k b, l⟩
theorem Pt.all {B : Nat} : ∀ {vs : List V}, (∀ v ∈ vs, Pt H d B v) → ∃ as ts e, Shw H vs d as ts e ∧ e ≤ B * vs.length
  | [], _ => ⟨_, _, _, .nil, Nat.zero_le _⟩
  | v :: vs, h => by
    obtain ⟨as, t, e, q, l⟩ := h v List.mem_cons_self
    obtain ⟨bs, us, f, r, m⟩ := Pt.all (vs := vs) fun w hw => h w (List.mem_cons_of_mem _ hw)
    refine ⟨_, _, _, q.cons1 r, ?_⟩
    rw [List.length_cons, Nat.mul_succ]
    omega
theorem Pt.lst {B : Nat} {a : Addr} {xs : List V} (h : H a = some (.lst xs)) (k : ∀ v ∈ xs, ∃ d0, d0 < d ∧ Pt H d0 B v) (hf : ∀ as ts e, Shw H xs (d - 1) as ts e → a ∉ as) (hd : 0 < d) : Pt H d (10 + B * xs.length) (.ref a) := by
  obtain ⟨d0, rfl⟩ : ∃ d0, d = d0 + 1 := ⟨d - 1, by omega⟩
  obtain ⟨as, ts, e, q, l⟩ := Pt.all (H := H) (d := d0) (B := B) (vs := xs) fun v hv => by
    obtain ⟨d1, h1, p⟩ := k v hv
    exact p.mono (by omega) (Nat.le_refl _)
  exact ⟨_, _, _, .lst h q (hf _ _ _ q) .nil, by omega⟩
end V9
namespace V9
open PySem PySem.Spec PyProof.Rows L2
theorem list_len (ts : List Str) : (listText ts).length ≤ piled ts + 2 := by
  cases ts with
  | nil => decide +kernel
  | cons t r =>
    have e0 : (listText (t :: r)).length = (textFrom 1 ((("[" : Str) ++ ("" : String)) ++ t) r).length + 1 := by
      show (textFrom 1 ((("[" : Str) ++ ("" : String)) ++ t) r ++ "]").length = _
      rw [strLen_append]; rfl
    have e1 : ((("[" : Str) ++ ("" : String)) ++ t).length = 1 + t.length := by rw [strLen_append]; rfl
    rw [e0, textFrom_length_pos _ _ _ Nat.one_pos, e1, piled_cons]
    omega
theorem dict_len (ps : List Str) : (dictText ps).length ≤ piled ps + 2 := by
  have e : (dictText ps).length = 1 + (Str.join ", " ps).length + 1 := by
    unfold dictText
    rw [strLen_append, strLen_append]; rfl
  by_cases h : ps = []
  · subst h; decide +kernel
  · have := join_length_add ps h
    omega
theorem zip_len : ∀ (ks : List (Str × V)) (us : List Str), (∀ p ∈ ks, p.1.length ≤ 100 ∧ ∀ k ∈ p.1.cps.toList, k < 16 ^ 8) → ks.length = us.length →
    piled (List.zipWith (fun p u => reprText p.1 ++ ": " ++ u) ks us) ≤ 1010 * ks.length + piled us
  | [], _, _, _ => by simp [piled]
  | _ :: _, [], _, h => by cases h
  | p :: ks, u :: us, hk, hl => by
    have ih := zip_len ks us (fun q hq => hk q (List.mem_cons_of_mem _ hq)) (by simpa using hl)
    obtain ⟨z1, z2⟩ := hk p List.mem_cons_self
    have r := StrLaws.reprText_len p.1 z2
    have e : (reprText p.1 ++ ": " ++ u).length = (reprText p.1).length + 2 + u.length := by
      rw [strLen_append, strLen_append]; rfl
    rw [List.zipWith_cons_cons, piled_cons, piled_cons, e, List.length_cons]
    omega
variable {H H' : Hp} {vs ws : List V} {d d' : Nat} {as bs : List Addr} {ts us : List Str} {c e : Nat}
theorem Shw.cost (h : Shw H vs d as ts c) : piled ts ≤ c := by
  induction h with
  | nil => exact Nat.zero_le _
  | non r ih =>
    rw [piled_cons]
    have : ("None" : Str).length = 4 := by decide +kernel
    omega
  | bl b r ih =>
    rw [piled_cons]
    have : ((if b then "True" else "False" : String) : Str).length ≤ 5 := by cases b <;> decide +kernel
    omega
  | int i hi r ih =>
    rw [piled_cons]
    have q := int_text_length_le10 (k := 60) (by decide) hi
    have : (Str.ofString (toString i)).length = (toString i).length := PySem.ofString_length _
    clear hi
    omega
  | str x hx hc r ih =>
    rw [piled_cons]
    have := StrLaws.reprText_len x hc
    omega
  | strL x hx hc r ih =>
    rw [piled_cons]
    have := StrLaws.reprText_len x hc
    omega
  | lst h q hn r i1 i2 =>
    rw [piled_cons]
    have := list_len ‹_›
    omega
  | tup h q hn r i1 i2 =>
    rw [piled_cons]
    have := fmt_text ‹_›
    omega
  | @dic vs d as ts c a bs us e ks h hk q hn r i1 i2 =>
    rw [piled_cons]
    have z := zip_len ks us hk (by rw [q.len, List.length_map])
    have := dict_len (List.zipWith (fun p u => reprText p.1 ++ ": " ++ u) ks us)
    omega
theorem one_le {t : Str} {ts : List Str} (h : t ∈ ts) : t.length + 2 ≤ piled ts := by
  induction ts with
  | nil => cases h
  | cons u ts ih =>
    rw [piled_cons]
    rcases List.mem_cons.mp h with z | z
    · subst z; omega
    · have := ih z; omega
section
variable {X : Cx} {pins : List (Addr × Obj)} {σ : L2.St} {s : Shared}
theorem kv_vals : ∀ {ks : List (Str × V)} {vs : List (Key × Value)}, KV (ks.map fun p => ((Sum.inr p.1 : Key), p.2)) vs → Vals (ks.map (·.2)) (vs.map (·.2))
  | [], _, h => by cases h; exact .nil
  | p :: ks, _, h => by
    cases h with
    | cons a b => exact .cons a.2 (kv_vals b)
theorem entries {prog : Program} {w : World} {h₀ : Heap} : ∀ (ks : List (Str × V)) (vs : List (Key × Value)) (es : List DictEntry) (us : List Str),
    KV (ks.map fun p => ((Sum.inr p.1 : Key), p.2)) vs → Pairs (mixKind prog w) es vs → (∀ p ∈ ks, p.1.length ≤ 100 ∧ ∀ k ∈ p.1.cps.toList, k < 16 ^ 8) →
    (∀ ws : List Value, Vals (ks.map (·.2)) ws → ReprAllK prog w bs h₀ d ws us) →
    ReprEntriesK prog w bs h₀ d es (List.zipWith (fun p u => reprText p.1 ++ ": " ++ u) ks us)
  | [], _, es, us, hv, hp, _, _ => by
    cases hv
    cases hp
    exact .nil
  | p :: ks, vs, es, us, hv, hp, hk, hr => by
    cases hv with
    | @cons _ q _ vs' h1 h2 =>
      obtain ⟨h1a, h1b⟩ := h1
      cases hp with
      | @cons en _ es' _ hi hj hp' =>
        have h0 := hr (q.2 :: vs'.map (·.2)) (.cons h1b (kv_vals h2))
        cases us with
        | nil => cases h0
        | cons u us =>
          have rest : ∀ ws : List Value, Vals (ks.map (·.2)) ws → ReprAllK prog w bs h₀ d ws us := fun ws hw => by
            have z := hr (q.2 :: ws) (.cons h1b hw)
            cases z with
            | cons _ z2 => exact z2
          have r2 := entries ks vs' es' us h2 hp' (fun x hx => hk x (List.mem_cons_of_mem _ hx)) rest
          obtain ⟨z1, z2⟩ := hk p List.mem_cons_self
          have hkey : ∃ t, en.key = .str p.1 t := by
            obtain ⟨q1, q2⟩ := q
            have e1 : Sum.inr p.1 = q1 := h1a
            subst e1
            obtain ⟨t, e⟩ := Value.isStrOf_shape (x := p.1) (v := en.key) hi
            exact ⟨t, e⟩
          obtain ⟨t, ek⟩ := hkey
          rw [List.zipWith_cons_cons]
          refine .cons (e := en) ?_ ?_ r2
          · rw [ek]
            exact .of_is (ReprIs.str p.1 t (by
              have := StrLaws.reprText_len p.1 z2
              rw [sizeLine_eq]
              omega)) _ _ _
          · rw [hj]
            cases h0 with
            | cons z _ => exact z
theorem Shw.runs (I : Inv X pins σ H s) (h : Shw H vs d as ts c) : c ≤ sizeLine → ∀ ws : List Value, Vals vs ws → ReprAllK X.prog X.w as s.heap d ws ts := by
  induction h with
  | nil =>
    intro _ ws r
    cases r
    exact .nil
  | non r ih =>
    intro hc ws rv
    cases rv with
    | cons r1 r2 =>
      cases (show _ = Value.none from r1)
      exact .cons (.of_is ReprIs.none _ _ _) (ih (by omega) _ r2)
  | bl b r ih =>
    intro hc ws rv
    cases rv with
    | cons r1 r2 =>
      cases (show _ = Value.bool b from r1)
      cases b <;> exact .cons (.of_is (ReprIs.bool _) _ _ _) (ih (by omega) _ r2)
  | int i hi r ih =>
    intro hc ws rv
    cases rv with
    | cons r1 r2 =>
      obtain ⟨t, rfl⟩ := r1
      refine .cons (.of_is (ReprIs.int t ?_) _ _ _) (ih (by omega) _ r2)
      by_cases h0 : i.natAbs = 0
      · rw [h0]; decide
      · exact (Nat.log2_lt h0).mpr (Nat.lt_trans hi (by decide +kernel))
  | str x hx hk r ih =>
    intro hc ws rv
    cases rv with
    | cons r1 r2 =>
      obtain ⟨t, rfl⟩ := r1
      refine .cons (.of_is (ReprIs.str x t ?_) _ _ _) (ih (by omega) _ r2)
      have := StrLaws.reprText_len x hk
      rw [sizeLine_eq]
      omega
  | strL x hx hk r ih =>
    intro hc ws rv
    cases rv with
    | cons r1 r2 =>
      obtain ⟨t, rfl⟩ := r1
      refine .cons (.of_is (ReprIs.str x t ?_) _ _ _) (ih (by omega) _ r2)
      have := StrLaws.reprText_len x hk
      rw [sizeLine_eq]
      omega
  | @lst vs d as ts c a xs bs us e h q hn r i1 i2 =>
    intro hc ws rv
    cases rv with
    | cons r1 r2 =>
      cases (show _ = Value.ref a from r1)
      obtain ⟨_, its, n, rx, hg⟩ := (show ObjOk X.prog X.w H s.heap a (.lst xs) from I.hok a _ h)
      have k := i1 (by omega) its rx
      have k2 := (i2 (by omega) _ r2).more_le (as' := (a :: bs) ++ as) (fun b hb => List.mem_append_right _ hb) (Nat.le_refl _)
      refine .cons ?_ k2
      have one : ReprK X.prog X.w (a :: bs) s.heap (d + 1) (.ref a) (listText us) := by
        cases its with
        | nil =>
          cases k
          exact .listEmpty hg rfl rfl
        | cons y l => exact .list hg rfl rfl hn (by simpa using k.length_eq) fun i z hz => k.item i z (by simpa using hz)
      exact one.more fun b hb => List.mem_append_left _ hb
  | @tup vs d as ts c a xs bs us e h q hn r i1 i2 =>
    intro hc ws rv
    cases rv with
    | cons r1 r2 =>
      cases (show _ = Value.ref a from r1)
      obtain ⟨_, its, rx, ob, hg, hcl, n, hd⟩ := (show ObjOk X.prog X.w H s.heap a (.tup xs) from I.hok a _ h)
      have k := i1 (by omega) its rx
      have k2 := (i2 (by omega) _ r2).more_le (as' := (a :: bs) ++ as) (fun b hb => List.mem_append_right _ hb) (Nat.le_refl _)
      exact .cons ((ReprK.tuple hg hcl hd hn k).more fun b hb => List.mem_append_left _ hb) k2
  | @dic vs d as ts c a bs us e ks h hk q hn r i1 i2 =>
    intro hc ws rv
    cases rv with
    | cons r1 r2 =>
      cases (show _ = Value.ref a from r1)
      obtain ⟨_, hsm, vv, rk, ob, es, ep, hg, hex, hd, _, hp, _⟩ := (show ObjOk X.prog X.w H s.heap a (.dK (ks.map fun p => (Sum.inr p.1, p.2))) from I.hok a _ h)
      have k2 := (i2 (by omega) _ r2).more_le (as' := (a :: bs) ++ as) (fun b hb => List.mem_append_right _ hb) (Nat.le_refl _)
      exact .cons ((ReprK.dict hg hex.1 hd hsm hn (entries ks vv es.toList us rk hp hk fun ws hw => i1 (by omega) ws hw)).more fun b hb => List.mem_append_left _ hb) k2
/-- repr(x), x a list -/
theorem call_reprL (hg : X.A.guards = some []) (hu : X.A.units + 64 < cLine) : CallR X (.builtin "repr") (fun vs H Q => ∃ (p : Addr) (d : Nat) (as : List Addr) (t : Str) (c : Nat), vs = [.ref p] ∧ (∃ xs, H p = some (.lst xs)) ∧ Shw H [.ref p] d as [t] c ∧ d ≤ 60 ∧ c ≤ 16000000 ∧ Q (.str t) H) := by
  intro pins s σ H xs us Q I r h
  obtain ⟨p, d, as, t, c, rfl, ⟨xs, hp⟩, hs, hd, hc, q⟩ := h
  obtain ⟨u, rfl, rfl⟩ := vals1 r
  have hz : sizeLine = 16777216 := sizeLine_eq
  have hcost := hs.cost
  rw [piled_cons] at hcost
  obtain ⟨_, its, n, rx, hgt⟩ := (show ObjOk X.prog X.w H s.heap p (.lst xs) from I.hok p _ hp)
  cases hs with
  | @lst _ d0 _ _ _ _ ys bs ts e hp' q1 hn r1 =>
    cases r1
    rw [hp] at hp'
    cases hp'
    have k := q1.runs I (by omega) its rx
    refine call_repr_slot (T := "list") (idr := "list.__repr__") (by omega) ⟨_, hgt, rfl⟩ PySem.F.slot_list_repr.toG ?_
    cases its with
    | nil =>
      cases k
      exact call_list_repr_empty ⟨_, hgt, rfl⟩ hgt rfl ⟨_, _, rfl, .str _, H, I.tok _, ⟨_, rfl⟩, q⟩
    | cons y l =>
      refine call_list_reprK (g := []) hgt rfl rfl hn (by simpa using k.length_eq) (fun i z hz => k.item i z (by simpa using hz)) hg (fun b _ => Clear.nil b) ?_ (fun _ _ e => e) (fun h' u tk hk => ?_) (by omega)
      · show X.A.units + 1 + (d0 + 1) < cLine
        omega
      · exact ⟨_, _, rfl, .str _, H, I.kept (t' := tk) hk, ⟨_, rfl⟩, q⟩
  | tup hp' => rw [hp] at hp'; cases hp'
  | dic ks hp' => rw [hp] at hp'; cases hp'
end
end V9
/-! Promises of defs that are called where nothing is being printed (guards empty). -/
namespace V9
open PySem PySem.Spec PyProof.Rows L2
/-- a def's promise, wherever it is called with nothing being printed -/
structure Ok0 (P : Program) (w : World) (K : PySem.W.Frag) (mg : PySem.Str → Option Value) (base : Heap) (k : Nat)
    (f : Addr) (fd : FuncData) (ps : List PySem.Str) (sp : Sp) : Prop where
  cnt : ∀ vs H Q E, sp vs H Q E → vs.length = ps.length
  go : ∀ (A : Around) (outer : List Env) (s : Shared) (H : Hp) (args : Args) (us : List Value) (vs : List V) (Q : VK) (E : XK),
    A.guards = some [] → Room k A → Env0 P w K mg base A outer s H → BindsTo s fd args (ps.zip us) → Vals vs us → sp vs H Q E →
    codeAny (model P w) A (.call (.ref f) args) (CR CX0 outer P w H s Q E) s
section
variable {P : Program} {w : World} {K : PySem.W.Frag} {mg : PySem.Str → Option Value} {base : Heap} {k : Nat} {f : Addr} {fd : FuncData}
theorem Ok0.mk_of {x qual : PySem.Str} {st : Stmt} {N ps : List PySem.Str} {sp : Sp} (F : Fun K x qual st f fd) (S : FnScope N ps (defScope st))
    (cnt : ∀ vs H Q E, sp vs H Q E → vs.length = ps.length)
    (body : ∀ (cdv : Value) (A : Around) (outer : List Env) (s : Shared) (H : Hp) (vs : List V) (Q : VK) (E : XK), A.guards = some [] →
      Room k (A.deeper (envOfC qual (defScope st) s.heap.objs.size f cdv)) → sp vs H Q E →
      ∃ t, PSs (cxOf CX0 P w K mg base N qual (defScope st) f cdv A outer s H E).nox (defBody st) t ∧ t { nx := fun _ H' => Q .non H', rt := Q } (start N vs) H) :
    Ok0 P w K mg base (k + 1) f fd ps sp := by
  obtain ⟨oc, od, kV, doc, pm, an, cdv, ct, osl, rfl, lk, hcd⟩ := F.ex
  refine ⟨cnt, ?_⟩
  intro A outer s H args us vs Q E hgd hr e0 hb r hsp
  have kept : ∀ b o, base.get? b = some o → s.heap.get? b = some o := fun b o e => (e0.bs b o e).1
  have KX : K.In s.heap := e0.mod.kin.keeps kept
  have par : ∀ y ∈ ps.zip us, (defScope st).names.lookup y.1 = some .local ∨
      ((defScope st).names.lookup y.1 = some .cell ∧ ((cellsFrom (s.heap.objs.size + 1) (defScope st).names []).lookup y.1).isSome = true) := by
    rintro ⟨n, v⟩ hy
    rcases S.par n (List.of_mem_zip hy).1 with q | q
    · exact .inl q
    · exact .inr ⟨q, PySem.W.cellsFrom_some _ _ _ (.inl q)⟩
  have entry := hb
  refine codeAny_call_function hr.depth (KX _ _ lk) rfl S.co S.gen rfl (PySem.W.codeRec_of KX hcd) (entry _ _ _ _ ?_)
  refine wpAny_newFunctionEnv_cells S.kind par ?_
  intro env he s1 x
  subst he
  refine ⟨(e0.mod.nolimit.keeps kept).keeps x.toInCall.keep, codeAny_func ?_⟩
  obtain ⟨t, ht, hq⟩ := body cdv A outer s H vs Q E hgd (hr.deeper _) hsp
  have I := inv_start (CX := CX0) (E := E) S hr.hd e0 (cnt _ _ _ _ hsp) r x
  have fin : ∀ {σ' : L2.St} {s' : Shared} {H' : Hp} {v : V} {u : Value},
      Inv (cxOf CX0 P w K mg base N qual (defScope st) f cdv A outer s H E) [] σ' H' s' → RelV v u → Q v H' → CE outer P w H s Q u s' := by
    intro σ' s' H' v u J rv q
    exact ⟨v, H', J.os, J.bare, J.base, J.hok, rv, q⟩
  refine wpAny_mono (ht.nox.run [] s1 (start N vs) H _ I hq) ?_ (fun e s' hs => hs)
  intro fl s' hs
  cases fl with
  | ret u => obtain ⟨v, σ', H', J, rv, q⟩ := hs; exact fin J rv q
  | next => obtain ⟨σ', H', J, q⟩ := hs; exact fin (v := V.non) (u := Value.none) J rfl q
  | brk => obtain ⟨_, _, _, q⟩ := hs; exact q.elim
  | cont => obtain ⟨_, _, _, q⟩ := hs; exact q.elim
end
section
variable {X : Cx} {k : Nat} {f : Addr} {fd : FuncData} {ps : List PySem.Str} {sp : Sp} {x : PySem.Str} {p pos : Pos} {e : Expr} {es : List Expr} {t : TA}
/-- f(..) of such a def -/
theorem pe_call00 (F : Ok0 X.prog X.w X.K X.mg X.base k f fd ps sp) (hgd : X.A.guards = some []) (hr : Room k X.A) (hg : Gl X x) (hm : X.mg x = some (.ref f)) (hk : PySem.W.keepIn X.K (.ref f) = true)
    (hb : Binds X.K fd ps []) (ha : PA X (e :: es) t) (hdb : (x == ("__debug__" : PySem.Str)) = false := by decide)
    (he : starEach (e :: es) X.env = (false, eval e X.env) :: starEach es X.env := by rfl) (hpl : (backTo pos (starEach es X.env)).any (·.1) = false := by rfl) :
    PE X (.Call (.Name x p) (e :: es) [] pos) (fun σ H Q => t σ H fun vs H1 => sp vs H1 Q E0) := by
  constructor
  intro pins s σ H Q I h
  refine wpAny_Call_Name_kw (ld_glob I hg hm ?_ hdb)
  refine PySem.W.callWith_K (h₀ := X.base) I.ok.mod.kin hk (thn (ha.run pos pins s σ H _ I h) ?_) he hpl
  rintro us s1 ⟨vs, H1, I1, r, q⟩
  refine ⟨I1.kIn, ?_⟩
  have hl : us.length = ps.length := by rw [← r.length]; exact F.cnt _ _ _ _ q
  have hb1 := hb s1 us I1.kIn (by simpa using hl)
  rw [List.append_nil] at hb1
  refine wpAny_call (codeAny_mono (F.go X.A X.stack s1 H1 ⟨us, []⟩ us vs Q E0 hgd hr I1.env0 hb1 r q) ?_)
  intro r' s' hq
  cases r' with
  | error e => exact hq.elim
  | ok fl =>
    cases fl with
    | ret u => exact I1.after hq
    | next => exact hq.elim
    | brk => exact hq.elim
    | cont => exact hq.elim
end
end V9
/-! The law's own call, from a promise that wants empty guards. -/
namespace V9
open PySem PySem.Spec PyProof.Rows L2
section
variable {P : Program} {w : World} {K : PySem.W.Frag} {mg mb : PySem.Str → Option Value} {k : Nat} {fa a : Addr} {fd : FuncData} {x : PySem.Str} {sp : Sp} {s₁ : Shared} {vs : List Value} {ns : List Int}
/-- from an abstract heap that tracks at most the script -/
theorem law_core {H : Hp} (KX : K.In s₁.heap) (hns : s₁.heap.Ns mainGlobals mg) (hb : s₁.heap.Ns builtinsNs mb) (hbb : ∀ x : PySem.Str, x ≠ "__name__" → mb x = bootBuiltins x) (hlim : s₁.heap.NoLimit) (hg : s₁.gens = #[])
    (ha : s₁.heap.get? a = some { cls := .type "list", data := .seq vs.toArray }) (hr : Room k callerA)
    (F : ∀ base : Heap, K.In base → base.Ns mainGlobals mg → Ok0 P w K mg base k fa fd [x] sp) (hbind : ∀ (s : Shared) (u : Value), BindsTo s fd ⟨[u], []⟩ [(x, u)])
    (hO : Only H) (hsp : sp [.ref a] H (fun v _ => v = .bl true) fun _ _ _ => False) (hok : HOk P w H s₁.heap) (hA : ∀ b, H b ≠ none → b = a) (hK : H a ≠ none → K.lookup a = none) :
    codeAny (model P w) callerA (.call (.ref fa) ⟨[.ref a], []⟩) (fun r s' => r = .ok (.ret (.bool true)) ∧ OldK s₁.heap s'.heap ∧ s'.os = s₁.os ∧ AllBare s'.gens) s₁ := by
  have dictFree : ∀ {b : Addr} {o : Obj} {es : Array DictEntry} {ep : Nat}, s₁.heap.get? b = some o → o.data = .dict es ep → H b = none := by
    intro b o es ep e d
    rcases Option.eq_none_or_eq_some (H b) with q | ⟨u, q⟩
    · exact q
    · have e' := hA b (by rw [q]; simp)
      rw [e', ha] at e
      cases e
      exact absurd (show Data.seq vs.toArray _ = Data.dict es ep from d) (by simp)
  have ns' : ∀ {b : Addr} {m : PySem.Str → Option Value}, s₁.heap.Ns b m → (hidT s₁.heap H).Ns b m := by
    rintro b m ⟨o, es, ep, e, d, r⟩
    exact ⟨o, es, ep, hidT_get e (dictFree e d), d, r⟩
  have kin : K.In (hidT s₁.heap H) := by
    intro b o e
    refine hidT_get (KX b o e) ?_
    rcases Option.eq_none_or_eq_some (H b) with q | ⟨u, q⟩
    · exact q
    · have e' := hA b (by rw [q]; simp)
      rw [e'] at e q
      rw [hK (by rw [q]; simp)] at e
      cases e
  obtain ⟨mc, l1, l2⟩ := hlim
  have M : Mod K mg (hidT s₁.heap H) := ⟨kin, ns' hns, ⟨mb, ns' hb, hbb⟩, ⟨mc, ns' l1, l2⟩⟩
  have e0 : Env0 P w K mg (hidT s₁.heap H) callerA [] s₁ H :=
    { frames := rfl, mod := M, bs := fun b o e => of_hidT e, bsz := Nat.le_of_eq (hidT_size _ _), funs := trivial, frf := fun b hb => (by cases hb), hok := hok, bare := .of_eq hg }
  refine codeAny_mono ((F _ kin (ns' hns)).go callerA [] s₁ H ⟨[.ref a], []⟩ [.ref a] [.ref a] _ _ rfl hr e0 (hbind s₁ (.ref a)) (.cons rfl .nil) hsp) ?_
  intro r s' h
  cases r with
  | error e => exact h.elim
  | ok fl =>
    cases fl with
    | next => exact h.elim
    | brk => exact h.elim
    | cont => exact h.elim
    | ret u =>
      obtain ⟨v, H', os, bare, un, hok', r', q⟩ := h
      obtain rfl : v = .bl true := q
      obtain rfl : u = Value.bool true := r'
      refine ⟨rfl, OldK.of_keep ?_, os, bare⟩
      intro b o e
      rcases Option.eq_none_or_eq_some (H b) with q | ⟨u, q⟩
      · exact un.keep b o e q (by intro z; cases z) (by simp)
      · rcases hO b with z | ⟨ob, xs, z⟩
        · rw [q] at z; cases z
        · have y1 := (hok b _ z).1
          have y2 := (hok' b _ (un.frzs b ob _ z)).1
          rw [e] at y1
          cases y1
          exact y2
theorem law_end (KX : K.In s₁.heap) (hns : s₁.heap.Ns mainGlobals mg) (hb : s₁.heap.Ns builtinsNs mb) (hbb : ∀ x : PySem.Str, x ≠ "__name__" → mb x = bootBuiltins x) (hlim : s₁.heap.NoLimit) (hg : s₁.gens = #[])
    (ha : s₁.heap.get? a = some { cls := .type "list", data := .seq vs.toArray }) (hi : IntsAre vs ns) (hl : ns.length ≤ sizeLine) (hr : Room k callerA)
    (F : ∀ base : Heap, K.In base → base.Ns mainGlobals mg → Ok0 P w K mg base k fa fd [x] sp) (hbind : ∀ (s : Shared) (u : Value), BindsTo s fd ⟨[u], []⟩ [(x, u)])
    (hsp : ∀ H : Hp, Only H → SqL K H a (ns.map V.int) → sp [.ref a] H (fun v _ => v = .bl true) fun _ _ _ => False) :
    codeAny (model P w) callerA (.call (.ref fa) ⟨[.ref a], []⟩) (fun r s' => r = .ok (.ret (.bool true)) ∧ OldK s₁.heap s'.heap ∧ s'.os = s₁.os ∧ AllBare s'.gens) s₁ := by
  have rv := vals_ints hi
  rcases Option.eq_none_or_eq_some (K.lookup a) with hk | ⟨o, hk⟩
  · let ob : Obj := { cls := .type "list", data := .seq vs.toArray }
    let H : Hp := fun b => if b = a then some (.frz ob (.lst (ns.map V.int))) else none
    have at_ : ∀ b, b = a → H b = some (.frz ob (.lst (ns.map V.int))) := fun b e => if_pos e
    have off : ∀ b, b ≠ a → H b = none := fun b e => if_neg e
    refine law_core (H := H) KX hns hb hbb hlim hg ha hr F hbind ?_ (hsp H ?_ (.inl (.inr ⟨ob, at_ a rfl⟩))) ?_ ?_ (fun _ => hk)
    · intro b
      by_cases e : b = a
      · exact .inr ⟨_, _, at_ b e⟩
      · exact .inl (off b e)
    · intro b
      by_cases e : b = a
      · exact .inr ⟨_, _, at_ b e⟩
      · exact .inl (off b e)
    · intro b u z
      by_cases e : b = a
      · rw [at_ b e] at z
        cases z
        subst e
        exact ⟨ha, by rw [List.length_map]; exact hl, vs, _, rv, ha⟩
      · rw [off b e] at z
        cases z
    · intro b z
      by_cases e : b = a
      · exact e
      · exact absurd (off b e) z
  · have e := KX a o hk
    rw [ha] at e
    cases e
    have lv : vs.length ≤ sizeLine := by rw [hi.length]; exact hl
    refine law_core (H := fun _ => none) KX hns hb hbb hlim hg ha hr F hbind (fun _ => .inl rfl) (hsp _ (fun _ => .inl rfl) (.inr ⟨_, vs.toArray, _, hk, rfl, rfl, rfl, by simpa using lv, by simpa using rv⟩)) ?_ (fun b z => absurd rfl z) (fun z => absurd rfl z)
    intro b u z
    cases z
end
/-- the end of a law whose promise wants empty guards -/
theorem walk_of0 {l : PySem.W.OpenLaw} {n k : Nat} {q : Program} {loose : List PySem.Str} {XP : (PySem.Str → Option Value) → Heap → Prop} {YP : World → Heap → Prop} {d : DefRec} {K : Params → PySem.W.Frag} {sp : PySem.W.Frag → Sp} {x : PySem.Str}
    (hn : l.most = some n) (hn2 : n ≤ sizeLine) (hdf : d.params.defaults = []) (hr : Room k callerA) (hY : ∀ (w : World) (h : Heap), YP w h → (K w.params).In h)
    (F : ∀ (w : World) (mg : PySem.Str → Option Value) (fa : Addr) (h : Heap), (K w.params).In h → h.Ns mainGlobals mg → mg d.name = some (.ref fa) →
      ∃ fd : FuncData, (∀ (s : Shared) (u : Value), BindsTo s fd ⟨[u], []⟩ [(x, u)]) ∧ ∀ base : Heap, (K w.params).In base → base.Ns mainGlobals mg → Ok0 l.prog w (K w.params) mg base k fa fd [x] (sp (K w.params)))
    (hsp : ∀ (K : PySem.W.Frag) (H : Hp) (a : Addr) (ns : List Int), ns.length ≤ n → Only H → SqL K H a (ns.map V.int) → sp K [.ref a] H (fun v _ => v = .bl true) fun _ _ _ => False) :
    PySem.W.WalkO q loose XP YP l.row.toRowW d [] (fun f vs => PySem.call f vs) := by
  refine Att.attach_call hn hdf ?_
  intro w s₀ s₁ mg mb fa o pm cd doc a vs ns G Y ho hd hcd hmg hobj hints hlen hg
  obtain ⟨fd, hb, hF⟩ := F w mg fa _ (hY w _ Y) G.T.g hmg
  exact law_end (hY w _ Y) G.T.g G.T.b G.T.builtins G.T.nolimit hg hobj hints (Nat.le_trans hlen hn2) hr hF hb (fun H hO hS => hsp _ H a ns hlen hO hS)
end V9
/-! Lists read by place for +=, things turned about, tuples held against (). -/
namespace V9
open PySem PySem.Spec PyProof.Rows L2
section
variable {X : Cx}
/-- xs[i], read for xs[i] op= e -/
theorem pget_lst : PGet X (fun o i H Q => ∃ (p : Addr) (xs : List V) (k : Int) (v : V), o = .ref p ∧ i = .int k ∧ H p = some (.lst xs) ∧ 0 ≤ k ∧ k < 2 ^ 63 ∧ xs[k.toNat]? = some v ∧ Q v H) := by
  intro pins s σ H o i ov iv Q I ro ri h
  obtain ⟨p, xs, k, v, rfl, rfl, hp, h0, h1, hv, q⟩ := h
  cases (show ov = Value.ref p from ro)
  obtain ⟨t, rfl⟩ := ri
  obtain ⟨its, r, ht, hz⟩ := I.list (.inl (.inl hp))
  obtain ⟨u, hu, ru⟩ := r.get hv
  exact wpAny_getItem_list ht.isList h0 h1 (by simpa using hu) ⟨v, H, I, ru, q⟩
theorem rev_bounds (n : Nat) : Builtin.Slice.sliceAdjust none none (-1) (n : Int) = ((n : Int) - 1, -1) := by
  unfold Builtin.Slice.sliceAdjust
  simp
theorem rev_places (n : Nat) : Builtin.Slice.slicePlaces ((n : Int) - 1) (-1) (-1) = n := by
  unfold Builtin.Slice.slicePlaces
  have h1 : ¬ ((-1 : Int) > 0) := by omega
  simp only [h1, if_false, Int.neg_neg, Int.ediv_one]
  split <;> omega
theorem mem_picks {α : Type} {xs : Array α} {l : List Nat} {y : α} (h : y ∈ l.filterMap (xs[·]?)) : y ∈ xs.toList := by
  obtain ⟨i, _, e⟩ := List.mem_filterMap.mp h
  rw [← Array.getElem?_toList] at e
  exact List.mem_of_getElem? e
theorem tup_rev {prog : Program} {w : World} {A : Around} {E : Value → Shared → Prop} {s : Shared} {t sl : Addr} {items : Array Value} {k : Tok} {Q : Value → Shared → Prop} (ht : IsTup s.heap t items) (hs : s.heap.IsSliceOf sl .none .none (.int (-1) k))
    (h : ∀ ys : List Value, (∀ y ∈ ys, y ∈ items.toList) → ys.length ≤ items.size → Q (.ref s.heap.objs.size) { s with heap := s.heap.push { cls := .type "tuple", data := .seq ys.toArray } })
    (hsz : items.size ≤ sizeLine) : wpAny (model prog w) A (getItem (.ref t) (.ref sl)) Q E s := by
  obtain ⟨os, hos, hcs, hds⟩ := id hs
  have hTs : s.TypeIs (.ref sl) "slice" := ⟨os, hos, hcs⟩
  let ys : List Value := (List.range items.size).filterMap fun (m : Nat) => items[(((items.size : Int) - 1) + (m : Int) * (-1)).toNat]?
  have m1 : ∀ y ∈ ys, y ∈ items.toList := fun y hy => by
    obtain ⟨i, _, e⟩ := List.mem_filterMap.mp hy
    rw [← Array.getElem?_toList] at e
    exact List.mem_of_getElem? e
  have m2 : ys.length ≤ items.size := Nat.le_trans (List.length_filterMap_le _ _) (by rw [List.length_range]; exact Nat.le_refl _)
  have hq := h ys m1 m2
  have fit : sizeOk (.seq ys.toArray) := by
    show ys.toArray.size ≤ sizeLine
    rw [List.size_toArray]
    omega
  unfold getItem
  try with_reducible refine wpAny_holding ?_
  first | refine wpAny_bind (wpAny_pure ?_) | skip
  refine wpAny_bind (wpAny_sequenceKey ht.typeIs (by decide) ?_)
  refine wpAny_bind (wpAny_callSpecial?_slot (name := PySem.Str.ofString "__getitem__") ht.typeIs PyProof.Rows.slot_tuple_getitem (wpAny_call_entry PyProof.Rows.slot_tuple_getitem ht.typeIs entry_tuple_getitem ?_ (args_tuple_getitem _ _)))
  show wpAny _ _ (Builtin.Tuple.tupleItemsOf (.ref t) >>= _) _ _ s
  refine wpAny_bind (tupleItemsOf_ ht (wpAny_bind (wpAny_typeOf hTs ?_)))
  rw [if_pos (by decide)]
  have applied : ∀ {Q' : Int × Int × Nat → Shared → Prop}, Q' ((items.size : Int) - 1, -1, items.size) s → ∀ {E' : Value → Shared → Prop} {A' : Around}, wpAny (model prog w) A' (Builtin.Slice.sliceApplied (.ref sl) (pure (items.size : Int))) Q' E' s := by
    intro Q' hq' E' A'
    unfold Builtin.Slice.sliceApplied Builtin.Slice.sliceFields
    refine wpAny_bind (wpAny_bind (wpAny_field hos hds (x := .none) rfl (wpAny_bind (wpAny_field hos hds (x := .none) rfl (wpAny_bind (wpAny_field hos hds (x := .int (-1) k) rfl (wpAny_pure ?_)))))))
    refine wpAny_bind (slicePart_int ?_)
    show wpAny _ _ (if ((-1 : Int) == 0) = true then _ else _) _ _ s
    rw [if_neg (by decide)]
    refine wpAny_bind (slicePart_none (wpAny_bind (slicePart_none (wpAny_bind (wpAny_pure ?_)))))
    show wpAny _ _ (match Builtin.Slice.sliceAdjust none none (-1) (items.size : Int) with | (lo, hi) => pure (lo, (-1 : Int), Builtin.Slice.slicePlaces lo hi (-1))) _ _ s
    rw [rev_bounds]
    show wpAny _ _ (pure ((items.size : Int) - 1, (-1 : Int), Builtin.Slice.slicePlaces ((items.size : Int) - 1) (-1) (-1))) _ _ s
    rw [rev_places]
    exact wpAny_pure hq'
  refine wpAny_bind (applied ?_)
  have no : ¬ ((((items.size : Int) - 1) == 0 && (-1 : Int) == 1 && items.size == items.size) = true) := by
    intro q
    rw [Bool.and_eq_true, Bool.and_eq_true] at q
    exact absurd q.1.2 (by decide)
  show wpAny _ _ (if (((items.size : Int) - 1) == 0 && (-1 : Int) == 1 && items.size == items.size) = true then _ else _) _ _ s
  rw [if_neg no]
  first
    | exact wpAny_bind (m := Builtin.Tuple.tupleExact _) (wpAny_newObj_type (wpAny_pure ⟨_, rfl, wpAny_pure hq⟩) fit)
    | exact wpAny_bind (m := Builtin.Tuple.tupleExact _) (wpAny_newObj_type (wpAny_bind (wpAny_pure (wpAny_pure ⟨_, rfl, wpAny_pure hq⟩))) fit)
    | exact wpAny_bind (wpAny_bind (m := Builtin.Tuple.tupleExact _) (wpAny_newObj_type (wpAny_pure (wpAny_pure ⟨_, rfl, wpAny_pure hq⟩)) fit))
    | exact wpAny_bind (wpAny_bind (m := Builtin.Tuple.tupleExact _) (wpAny_newObj_type (wpAny_pure ⟨_, rfl, wpAny_pure hq⟩) fit))
/-- t == () -/
theorem op_eqT0 (hu : X.A.units < cLine) : OpR X (compareOp .Eq) (fun x y H Q => ∃ (a b : Addr) (xs : List V), x = .ref a ∧ y = .ref b ∧ SqT X.K H a xs ∧ SqT X.K H b [] ∧ Q (.bl xs.isEmpty) H) := by
  intro pins s σ H x y v u Q I rx ry h
  obtain ⟨a, b, xs, rfl, rfl, ha, hb, q⟩ := h
  cases (show v = Value.ref a from rx)
  cases (show u = Value.ref b from ry)
  obtain ⟨i1, r1, p1, _⟩ := I.tuple ha
  obtain ⟨i2, r2, p2, _⟩ := I.tuple hb
  cases r2
  refine SeqAt.eq_tupleAt (e := fun _ => true) p1 p2 hu (fun j _ h2 => absurd h2 (Nat.not_lt_zero j)) ?_
  refine ⟨.bl xs.isEmpty, H, I, ?_, q⟩
  cases r1 with
  | nil => rfl
  | cons c d => simp [L2.RelV]
theorem cut_mem {z : PySem.Str} {lo hi : Option Int} {k : Nat} (h : k ∈ (cutS z lo hi).cps.toList) : k ∈ z.cps.toList := by
  have h' : k ∈ (z.cps.toList.drop (HT.sIx z.length 0 lo)).take (HT.sIx z.length z.length hi - HT.sIx z.length 0 lo) := h
  exact List.mem_of_mem_drop (List.mem_of_mem_take h')
/-- x[::-1], x a text or a tuple: some arrangement of its items -/
theorem pe_rev {e : Expr} {te : TE} {k : Nat} {p1 p2 p3 pos : Pos} (he : PE X e te) : PE X (.Subscript e (.Slice none none (some (.UnaryOp .USub (.Constant (.int 1) k p1) p2)) p3) pos)
    (fun σ H Q => te σ H fun x H1 => (∃ z, x = .str z ∧ z.length ≤ sizeLine ∧ ∀ y : PySem.Str, y.length ≤ z.length → (∀ k ∈ y.cps.toList, k ∈ z.cps.toList) → Q (.str y) H1) ∨
      (∃ a xs, x = .ref a ∧ SqT X.K H1 a xs ∧ ∀ p ys, H1 p = none → (∀ y ∈ ys, y ∈ xs) → ys.length ≤ xs.length → Q (.ref p) (upd H1 p (.tup ys)))) := by
  constructor
  intro pins s σ H Q I h
  refine Subscript_ (thn (he.run pins s σ H _ I h) ?_)
  rintro v s1 ⟨x, H1, I1, r1, q1⟩
  have hst : PO X (some (.UnaryOp .USub (.Constant (.int 1) k p1) p2)) (tPart (tUn (rU fun i => .int (-i)) (tC (.int 1)))) := po_some (pe_un un_neg pe_int)
  refine wpAny_Slice (thn (po_none.run pins s1 σ H1 (fun o H2 => o = none ∧ H2 = H1) I1 ⟨rfl, rfl⟩) ?_)
  rintro vl s2 ⟨l, H2, I2, pl, rfl, rfl⟩
  refine thn (po_none.run pins s2 σ H2 (fun o H3 => o = none ∧ H3 = H2) I2 ⟨rfl, rfl⟩) ?_
  rintro vu s3 ⟨u, H3, I3, pu, rfl, rfl⟩
  refine thn (hst.run pins s3 σ H3 (fun o H4 => o = some (-1) ∧ H4 = H3) I3 ⟨1, rfl, -1, rfl, rfl, rfl⟩) ?_
  rintro vs s4 ⟨o, H4, I4, ps, rfl, rfl⟩
  cases pl
  cases pu
  obtain ⟨tk, rfl⟩ : ∃ tk, vs = .int (-1) tk := by cases ps with | int i t => exact ⟨t, rfl⟩
  have I5 : Inv X pins σ H4 { s4 with heap := s4.heap.push { cls := .type "slice", data := .fields #[Value.none, Value.none, .int (-1) tk] } } := I4.kept (t' := s4.toks) fun b ob q => Heap.get?_push_of_some _ q
  show wpAny (model X.prog X.w) X.A (subscriptTail e (.Slice none none (some (.UnaryOp .USub (.Constant (.int 1) k p1) p2)) p3) v (.ref s4.heap.objs.size)) (EP X pins σ Q) X.xe _
  rcases q1 with ⟨z, rfl, hz, q⟩ | ⟨a, xs, rfl, hx, q⟩
  · obtain ⟨t, rfl⟩ := r1
    refine tail_any (ops := [.str z t, .ref s4.heap.objs.size]) (typeIs_str _ z t) F.slot_str_getitem.lookup ?_ (by with_unfolding_all rfl)
    refine wpAny_getItem_str_slice (l := none) (u := none) (st := some (-1, tk)) ⟨_, Heap.get?_push_size _ rfl, rfl, rfl⟩ rfl ?_
    let y : PySem.Str := ⟨((slicePicked z none none (some (-1, tk))).filterMap (z.cps[·]?)).toArray⟩
    have e1 : slicePicked z none none (some (-1, tk)) = (List.range z.length).map fun k => z.length - 1 - k := by
      show Builtin.Str.strSliceIndices none none (-1) z.length = _
      unfold Builtin.Str.strSliceIndices
      simp only [show ¬ ((-1 : Int) > 0) by decide, if_false]
      exact PySem.W.krv_sliceRange z.length
    have e2 : y.length ≤ z.length := by
      show (((slicePicked z none none (some (-1, tk))).filterMap (z.cps[·]?)).toArray).size ≤ z.length
      rw [List.size_toArray]
      refine Nat.le_trans (List.length_filterMap_le _ _) ?_
      rw [e1, List.length_map, List.length_range]
      exact Nat.le_refl _
    have e3 : ∀ k ∈ y.cps.toList, k ∈ z.cps.toList := fun k hk => mem_picks hk
    have hq := q y e2 e3
    unfold sliceMade
    rw [if_neg (by intro c; exact absurd (show ((-1 : Int) == 1) = true from (Bool.and_eq_true_iff.mp c).1) (by decide))]
    exact ⟨by show y.length ≤ sizeLine; omega, .str y, H4, I5.tok _, ⟨_, rfl⟩, hq⟩
  · cases (show v = Value.ref a from r1)
    obtain ⟨its, r, ht, hz⟩ := I5.tuple hx
    refine tail_any (ops := [.ref a, .ref s4.heap.objs.size]) ht.typeIs PyProof.Rows.slot_tuple_getitem.lookup ?_ (by with_unfolding_all rfl)
    refine tup_rev ht (Heap.IsSliceOf.new _ _ _ _) (fun ys hy hl => ?_) (by rw [List.size_toArray, ← r.length]; exact hz)
    obtain ⟨zs, rz, hzs⟩ : ∃ zs : List V, Vals zs ys ∧ ∀ y ∈ zs, y ∈ xs := by
      clear hl
      induction ys with
      | nil => exact ⟨[], .nil, fun y hy => by cases hy⟩
      | cons y ys ih =>
        obtain ⟨zs, rz, hzs⟩ := ih fun w hw => hy w (List.mem_cons_of_mem _ hw)
        obtain ⟨j, hj⟩ := List.mem_iff_getElem?.mp (hy y List.mem_cons_self)
        have hj' : its[j]? = some y := by simpa using hj
        rcases Option.eq_none_or_eq_some (xs[j]?) with n | ⟨x, n⟩
        · have := r.none_of n
          rw [this] at hj'; cases hj'
        · obtain ⟨u, hu, ru⟩ := r.get n
          rw [hj'] at hu
          cases hu
          exact ⟨x :: zs, .cons ru rz, fun w hw => by
            rcases List.mem_cons.mp hw with e | e
            · exact e ▸ List.mem_of_getElem? n
            · exact hzs w e⟩
    have hlen : zs.length ≤ xs.length := by
      rw [rz.length, r.length]
      rw [List.size_toArray] at hl
      exact hl
    have hn := I5.hok.fresh (Nat.le_refl _)
    refine ⟨.ref _, _, I5.laid (t' := s4.toks) (o := .tup zs) (fun b ob q => Heap.get?_push_of_some _ q) (Nat.le_refl _) ?_, rfl, q _ zs hn hzs hlen⟩
    exact ⟨by omega, _, rz, IsTup.new _ _⟩
end
end V9
/-! The draws. -/
namespace V9
open PySem PySem.Spec PyProof.Rows L2
def topS (i : Nat) : Stmt := PySem.Challenge.pw_packsworn_k49_locks_shown_and_read.main.body.getD i (.Pass ⟨0, 0, 0, 0⟩)
abbrev sTake : Stmt := topS 26
abbrev sOne : Stmt := topS 27
theorem scTake : FnScope ["bag", "many", "cell", "stirred", "value", "begin", "second"] ["bag", "many"] (defScope sTake) := ⟨rfl, rfl, rfl, by decide +kernel, rfl, by decide +kernel, by decide +kernel⟩
theorem scOne : FnScope ["bag", "things"] ["bag", "things"] (defScope sOne) := ⟨rfl, rfl, rfl, by decide +kernel, rfl, by decide +kernel, by decide +kernel⟩
/-- all but b is as it was -/
structure Chb (b : Addr) (H H' : Hp) : Prop where
  app : ∀ a o, a ≠ b → H a = some o → H' a = some o
  fo : ∀ x y z l, H b = some (.lst [x, y, z, l]) → ∃ x y z, H' b = some (.lst [x, y, z, l])
instance {b : Addr} {H H' : Hp} : CoeFun (Chb b H H') (fun _ => ∀ a o, a ≠ b → H a = some o → H' a = some o) := ⟨Chb.app⟩
theorem Chb.refl {b : Addr} {H : Hp} : Chb b H H := ⟨fun _ _ _ h => h, fun _ _ _ _ h => ⟨_, _, _, h⟩⟩
theorem Chb.trans {b : Addr} {H H1 H2 : Hp} (x : Chb b H H1) (y : Chb b H1 H2) : Chb b H H2 := ⟨fun a o n h => y.app a o n (x.app a o n h), fun p q r l h => by
  obtain ⟨_, _, _, h1⟩ := x.fo p q r l h
  exact y.fo _ _ _ _ h1⟩
theorem Chb.new {b p : Addr} {o : HO} {H : Hp} (h : H p = none) : Chb b H (upd H p o) := ⟨fun a u _ e => by rw [upd_ne (ne_of_none e h)]; exact e, fun x y z l e => ⟨x, y, z, by rw [upd_ne (ne_of_none e h)]; exact e⟩⟩
theorem Chb.set {b : Addr} {x y z l x' y' z' : V} {H : Hp} (h : H b = some (.lst [x, y, z, l])) : Chb b H (upd H b (.lst [x', y', z', l])) := ⟨fun a u n e => by rw [upd_ne n]; exact e, fun p q r m e => by
  rw [h] at e
  cases e
  exact ⟨_, _, _, upd_same⟩⟩
theorem Chb.same {b : Addr} {H H' : Hp} (h : ∀ a o, H a = some o → H' a = some o) : Chb b H H' := ⟨fun a o _ e => h a o e, fun x y z l e => ⟨x, y, z, h _ _ e⟩⟩
theorem new_ne {H : Hp} {a p : Addr} {o u : HO} (ha : H a = some o) (hp : H p = none) : (upd H p u) a = some o := by rw [upd_ne (ne_of_none ha hp)]; exact ha
theorem new_same {H : Hp} {p : Addr} {o : HO} (h : H p = none) : Same H (upd H p o) := fun a u e => new_ne e h
/-- the bag at b -/
def Bag (H : Hp) (b : Addr) : Prop := ∃ (n m k : Int) (l : Addr) (cs : List Int), H b = some (.lst [.int n, .int m, .int k, .ref l]) ∧ H l = some (.lst (cs.map V.int)) ∧ l ≠ b ∧ 0 ≤ n ∧ 0 ≤ m ∧ m < 2147483647 ∧ cs.length ≤ 63 ∧ ∀ c ∈ cs, 0 ≤ c
theorem head_int {cs : List Int} (hc : ∀ c ∈ cs, 0 ≤ c) (lo hi : Option Int) : ∃ c : Int, 0 ≤ c ∧ atI (cutV (cs.map V.int) lo hi ++ [.int 0]) 0 = some (.int c) := by
  have sub : ∀ v ∈ cutV (cs.map V.int) lo hi, ∃ c, 0 ≤ c ∧ v = .int c := fun v hv => by
    have h1 := List.mem_of_mem_drop (List.mem_of_mem_take hv)
    obtain ⟨c, hc', e⟩ := List.mem_map.mp h1
    exact ⟨c, hc c hc', e.symm⟩
  generalize cutV (cs.map V.int) lo hi = zs at sub
  cases zs with
  | nil => exact ⟨0, by omega, rfl⟩
  | cons v zs =>
    obtain ⟨c, h0, rfl⟩ := sub v List.mem_cons_self
    exact ⟨c, h0, atI_nat (j := 0) rfl⟩
section
variable {P : Program} {w : World} {K : PySem.W.Frag} {mg : PySem.Str → Option Value} {base : Heap}
def spTake : Sp := fun vs H Q _ => ∃ (b : Addr) (many : Int), vs = [.ref b, .int many] ∧ Bag H b ∧ 0 < many ∧ many < 1073741824 ∧ ∀ H' v, Chb b H H' → Bag H' b → 0 ≤ v → v < many → Q (.int v) H'
theorem ok_take {f : Addr} {fd : FuncData} {k : Nat} (F : Fun K "_law_take" "_law_take" sTake f fd) (mI : mg "int" = none) : FnOk P w K mg base CX0 (k + 1) f fd ["bag", "many"] spTake := by
  refine F.ok scTake (fun vs H Q E h => ?_) (fun cdv A outer s H vs Q E hr h => ?_)
  · obtain ⟨b, many, rfl, _⟩ := h
    rfl
  · obtain ⟨b, many, rfl, hB, hm0, hm1, q⟩ := h
    refine ⟨_, C8.pss_cut (ps_if (pt_cmpR op_eq (pe_ix ix_list (pv 0) pe_int (fun _ _ => rfl)) pe_int (nomark _))
        (pss_cons (ps_set (i := 2) scTake.nd rfl (.inl rfl) (pe_ix ix_list (pe_op op_cat (pe_slice sl_list (pe_ix ix_list (pv 0) pe_int (fun _ _ => rfl)) (po_some (pe_ix ix_list (pv 0) pe_int (fun _ _ => rfl))) po_none) (pe_lst (pa_cons pe_int pa_nil))) pe_int (fun _ _ => rfl)))
        (pss_cons (ps_augS (pv 0) pe_int pget_lst pe_int ip_add set_list)
        (C8.pss_cut (ps_if (pt_cmpR op_ge (pv 2) (pe_op op_pow pe_int pe_int) (nomark _)) (pss_one (ps_asg (pv 2) (pg_sub (pv 0) pe_int set_list))) pss_nil)
        (pss_cons (ps_set (i := 3) scTake.nd rfl (.inl rfl) (pe_op op_add (pe_op op_add (pe_op op_mul (pe_ix ix_list (pv 0) pe_int (fun _ _ => rfl)) pe_int) (pe_op op_mod (pe_callTy call_int1 (by rfl) mI (by decide +kernel) (pa_cons (pv 2) pa_nil)) pe_int)) (pe_op op_mul pe_int (pe_ix ix_list (pv 0) pe_int (fun _ _ => rfl)))))
        (pss_one (ps_asg (pe_op op_mod (pe_callTy call_int1 (by rfl) mI (by decide +kernel) (pa_cons (pv 3) pa_nil)) pe_int) (pg_sub (pv 0) pe_int set_list)))))))
        pss_nil)
      (pss_cons (ps_if (pt_cmpR op_gt (pe_ix ix_list (pv 0) pe_int (fun _ _ => rfl)) pe_int (nomark _))
        (pss_cons (ps_set (i := 4) scTake.nd rfl (.inl rfl) (pe_op op_mod (pe_callTy call_int1 (by rfl) mI (by decide +kernel) (pa_cons (pe_ix ix_list (pv 0) pe_int (fun _ _ => rfl)) pa_nil)) (pv 1)))
        (pss_cons (ps_asg (pe_op op_fdiv (pe_callTy call_int1 (by rfl) mI (by decide +kernel) (pa_cons (pe_ix ix_list (pv 0) pe_int (fun _ _ => rfl)) pa_nil)) (pv 1)) (pg_sub (pv 0) pe_int set_list))
        (pss_one (ps_ret (pv 4)))))
        pss_nil)
      (pss_cons (ps_set (i := 5) scTake.nd rfl (.inl rfl) (pe_op op_mod (pe_callTy call_int1 (by rfl) mI (by decide +kernel) (pa_cons (pe_op op_mul (pe_op op_add (pe_ix ix_list (pv 0) pe_int (fun _ _ => rfl)) pe_int) pe_int) pa_nil)) pe_int))
      (pss_cons (ps_set (i := 6) scTake.nd rfl (.inl rfl) (pe_op op_mod (pe_callTy call_int1 (by rfl) mI (by decide +kernel) (pa_cons (pe_op op_mul (pe_op op_mod (pe_callTy call_int1 (by rfl) mI (by decide +kernel) (pa_cons (pe_op op_mul (pv 5) (pv 5)) pa_nil)) pe_int) pe_int) pa_nil)) pe_int))
      (pss_one (ps_ret (pe_op op_mod (pe_callTy call_int1 (by rfl) mI (by decide +kernel) (pa_cons (pe_op op_fdiv (pv 6) pe_int) pa_nil)) (pv 1))))))), ?_⟩
    obtain ⟨n, m, k, l, cs, hb, hl, hne, h0, h1, h2, h3, hcs⟩ := hB
    refine ⟨fun σ' H' => ∃ y2 y3, σ' = [some (.ref b), some (.int many), y2, y3, none, none, none] ∧ Chb b H H' ∧ Bag H' b, ?_, fun σ' H' hM => ?_⟩
    · refine ⟨.ref b, rfl, b, _, 0, .int n, rfl, rfl, .inl (.inl hb), rfl, rfl, _, rfl, ite2 (fun e => ?_) (fun e => ?_)⟩
      · obtain ⟨c, hc0, hc⟩ := head_int hcs (some k) none
        refine ⟨.ref b, rfl, b, _, 3, .ref l, rfl, rfl, .inl (.inl hb), rfl, .ref b, rfl, b, _, 2, .int k, rfl, rfl, .inl (.inl hb), rfl, k, rfl, l, _, rfl, .inl (.inl hl), fun p np => ⟨by show 1 ≤ sizeLine; decide, fun o no => ?_⟩⟩
        refine ⟨p, o, _, _, rfl, rfl, new_ne upd_same no, upd_same, ?_, fun r nr => ?_⟩
        · have := cutV_length (cs.map V.int) (some k) none
          rw [List.length_map] at this
          rw [sizeLine_eq]
          show _ + 1 ≤ _
          omega
        · refine ⟨r, _, 0, .int c, rfl, rfl, .inl (.inl upd_same), hc, ?_⟩
          generalize hH3 : upd (upd (upd H p _) o _) r _ = H3
          have c3 : Same H H3 := by rw [← hH3]; exact ((new_same np).trans (new_same no)).trans (new_same nr)
          have hb3 := c3 _ _ hb
          refine ⟨.ref b, rfl, b, _, 2, .int k, rfl, rfl, hb3, by decide, by decide, rfl, k, 1, rfl, rfl, b, _, 2, 2, rfl, rfl, hb3, rfl, ?_⟩
          refine ⟨fun σ' H' => σ' = [some (.ref b), some (.int many), some (.int c), none, none, none, none] ∧ Chb b H H' ∧ ∃ n', 0 ≤ n' ∧ H' b = some (.lst [.int n', .int m, .int (k + 1), .ref l]), ?_, fun σ' H' hM => ?_⟩
          · refine ⟨_, rfl, 10, 18, rfl, rfl, ⟨by decide, by decide, by decide⟩, c, _, rfl, rfl, _, rfl, ite2 (fun e2 => ?_) (fun e2 => ?_)⟩
            · exact ⟨_, rfl, .ref b, rfl, b, _, 0, 0, rfl, rfl, upd_same, rfl, rfl, ((Chb.same c3).trans (Chb.set hb3)).trans (Chb.set upd_same), c, hc0, upd_same⟩
            · exact ⟨rfl, (Chb.same c3).trans (Chb.set hb3), n, h0, upd_same⟩
          · obtain ⟨rfl, hC, n', hn', hb5⟩ := hM
            refine ⟨.ref b, rfl, b, _, 1, .int m, rfl, rfl, .inl (.inl hb5), rfl, m, 48271, rfl, rfl, .inl ⟨by omega, by omega⟩, _, rfl, .inl ⟨c, rfl, c, 2147483647, rfl, rfl, (by show (0 : Int) < 2147483647; decide), _, _, rfl, rfl, .ref b, rfl, b, _, 2, .int (k + 1), rfl, rfl, .inl (.inl hb5), rfl, 7919, k + 1, rfl, rfl, .inl ⟨by decide, by decide⟩, _, _, rfl, rfl, ?_⟩⟩
            refine ⟨_, rfl, .inl ⟨_, rfl, _, 2147483647, rfl, rfl, (by show (0 : Int) < 2147483647; decide), .ref b, rfl, b, _, 1, 1, rfl, rfl, hb5, rfl, ?_⟩⟩
            refine ⟨_, _, rfl, hC.trans (Chb.set hb5), n', _, k + 1, l, cs, upd_same, ?_, hne, hn', Int.emod_nonneg _ (by decide), Int.emod_lt_of_pos _ (by decide), h3, hcs⟩
            rw [upd_ne hne]
            exact hC _ _ hne hl
      · exact ⟨none, none, rfl, Chb.refl, n, m, k, l, cs, hb, hl, hne, h0, h1, h2, h3, hcs⟩
    · clear hb hl hne h0 h1 h2 h3 hcs
      obtain ⟨y2, y3, rfl, hC, n, m, k, l, cs, hb, hl, hne, h0, h1, h2, h3, hcs⟩ := hM
      refine ⟨.ref b, rfl, b, _, 0, .int n, rfl, rfl, .inl (.inl hb), rfl, n, 0, rfl, rfl, _, rfl, ite2 (fun e => ?_) (fun e => ?_)⟩
      · refine ⟨.ref b, rfl, b, _, 0, .int n, rfl, rfl, .inl (.inl hb), rfl, .inl ⟨n, rfl, _, rfl, n, many, rfl, rfl, hm0, ?_⟩⟩
        refine ⟨.ref b, rfl, b, _, 0, .int n, rfl, rfl, .inl (.inl hb), rfl, .inl ⟨n, rfl, _, rfl, n, many, rfl, rfl, ⟨hm0, hm1⟩, .ref b, rfl, b, _, 0, 0, rfl, rfl, hb, rfl, _, rfl, ?_⟩⟩
        refine q _ _ (hC.trans (Chb.set hb)) ⟨n / many, m, k, l, cs, upd_same, ?_, hne, Int.ediv_nonneg h0 (by omega), h1, h2, h3, hcs⟩ (Int.emod_nonneg _ (by omega)) (Int.emod_lt_of_pos _ hm0)
        rw [upd_ne hne]
        exact hl
      · have hB' : Bag H' b := ⟨n, m, k, l, cs, hb, hl, hne, h0, h1, h2, h3, hcs⟩
        refine ⟨.ref b, rfl, b, _, 1, .int m, rfl, rfl, .inl (.inl hb), rfl, m, 1, rfl, rfl, m + 1, 39373, rfl, rfl, .inl ⟨by omega, by omega⟩, .inl ⟨_, rfl, _, 1000000007, rfl, rfl, (by show (0 : Int) < 1000000007; decide), ?_⟩⟩
        have b0 := Int.emod_nonneg ((m + 1) * 39373) (show (1000000007 : Int) ≠ 0 by decide)
        have b1 := Int.emod_lt_of_pos ((m + 1) * 39373) (show (0 : Int) < 1000000007 by decide)
        refine ⟨_, rfl, _, rfl, (m + 1) * 39373 % 1000000007, (m + 1) * 39373 % 1000000007, rfl, rfl, .inl ⟨by omega, by omega⟩, ?_⟩
        generalize (m + 1) * 39373 % 1000000007 = begn at b0 b1
        have d0 := Int.emod_nonneg (begn * begn) (show (998244353 : Int) ≠ 0 by decide)
        have d1 := Int.emod_lt_of_pos (begn * begn) (show (0 : Int) < 998244353 by decide)
        refine .inl ⟨_, rfl, _, 998244353, rfl, rfl, (by show (0 : Int) < 998244353; decide), _, 30011, rfl, rfl, .inl ⟨by omega, by omega⟩, .inl ⟨_, rfl, _, 998244353, rfl, rfl, (by show (0 : Int) < 998244353; decide), ?_⟩⟩
        refine ⟨_, rfl, _, 7, rfl, rfl, ⟨by decide, by decide⟩, .inl ⟨_, rfl, _, rfl, _, many, rfl, rfl, hm0, ?_⟩⟩
        exact q _ _ hC hB' (Int.emod_nonneg _ (by omega)) (Int.emod_lt_of_pos _ hm0)
/-- one of some things -/
def spOne : Sp := fun vs H Q _ => ∃ (b t : Addr) (xs : List V), vs = [.ref b, .ref t] ∧ Bag H b ∧ H t = some (.lst xs) ∧ t ≠ b ∧ xs ≠ [] ∧ xs.length ≤ 1000 ∧ ∀ H' x, Chb b H H' → Bag H' b → x ∈ xs → Q x H'
theorem ok_one {f fT : Addr} {fd fdT : FuncData} {k : Nat} (F : Fun K "_law_one" "_law_one" sOne f fd) (FT : Fun K "_law_take" "_law_take" sTake fT fdT) (bT : Binds K fdT ["bag", "many"] []) (gT : mg "_law_take" = some (.ref fT))
    (mI : mg "int" = none) (mL : mg "len" = none) : FnOk P w K mg base CX0 (k + 2) f fd ["bag", "things"] spOne := by
  have GT : FnOk P w K mg base CX0 (k + 1) fT fdT ["bag", "many"] spTake := ok_take FT mI
  refine F.ok scOne (fun vs H Q E h => ?_) (fun cdv A outer s H vs Q E hr h => ?_)
  · obtain ⟨b, t, xs, rfl, _⟩ := h
    rfl
  · obtain ⟨b, t, xs, rfl, hB, ht, hne, hx, hl, q⟩ := h
    refine ⟨_, pss_one (ps_ret (pe_ix ix_list (pv 1) (pe_call GT hr (by rfl) gT FT.kp bT .nil pass0 (pa_cons (pv 0) (pa_cons (pe_callB call_len_seq (by rfl) mL PySem.boot_len (pa_cons (pv 1) pa_nil)) pa_nil))) (fun _ _ => rfl))), ?_⟩
    have pos : 0 < xs.length := List.length_pos_iff.mpr hx
    refine ⟨.ref t, rfl, .ref b, rfl, .ref t, rfl, t, xs, rfl, .inl (.inl (.inl ht)), b, _, rfl, hB, by omega, by omega, fun H' v hC hB' v0 v1 => ?_⟩
    have hi : v.toNat < xs.length := by omega
    refine ⟨t, xs, v, xs[v.toNat], rfl, rfl, .inl (.inl (hC _ _ hne ht)), ?_, q H' _ hC hB' (List.getElem_mem hi)⟩
    have e : ((v.toNat : Nat) : Int) = v := by omega
    have z := atI_nat (j := v.toNat) (List.getElem?_eq_getElem hi)
    rw [e] at z
    exact z
end
end V9
/-! Values that are drawn: what they print, what they are, apart from the bag at b. -/
namespace V9
open PySem PySem.Spec PyProof.Rows L2
section
variable {X : Cx} {e : Expr}
/-- a test, what holds behind it said once -/
theorem pt_mid {t : TT} (h : PT X e t) : PT X e (fun σ H Q => ∃ M : Bool → Hp → Prop, t σ H M ∧ ∀ c H', M c H' → Q c H') := by
  constructor
  intro pins s σ H Q I ⟨M, hm, k⟩
  exact thn (h.run pins s σ H M I hm) fun c s1 ⟨H1, I1, q⟩ => ⟨H1, I1, k c H1 q⟩
theorem pe_mid {t : TE} (h : PE X e t) : PE X e (fun σ H Q => ∃ M : V → Hp → Prop, t σ H M ∧ ∀ x H', M x H' → Q x H') := by
  constructor
  intro pins s σ H Q I ⟨M, hm, k⟩
  exact thn (h.run pins s σ H M I hm) fun c s1 ⟨x, H1, I1, r, q⟩ => ⟨x, H1, I1, r, k x H1 q⟩
end
/-- v prints, at depth d at most, at cost B at most, and b is not met -/
def Pv (b : Addr) (H : Hp) (d B : Nat) (v : V) : Prop := ∃ as t e, Shw H [v] d as [t] e ∧ e ≤ B ∧ b ∉ as
section
variable {b : Addr} {H H' : Hp} {d d' B B' : Nat} {v : V} {xs : List V}
theorem Pv.mono (p : Pv b H d B v) (hd : d ≤ d') (hB : B ≤ B') : Pv b H d' B' v := by
  obtain ⟨as, t, e, q, l, n⟩ := p
  exact ⟨as, t, e, q.up hd, by omega, n⟩
theorem Pv.chg (p : Pv b H d B v) (k : Chb b H H') : Pv b H' d B v := by
  obtain ⟨as, t, e, q, l, n⟩ := p
  exact ⟨as, t, e, q.keep fun a ha o h => k a o (fun z => n (z ▸ ha)) h, l, n⟩
theorem Pv.all : ∀ {vs : List V}, (∀ v ∈ vs, Pv b H d B v) → ∃ as ts e, Shw H vs d as ts e ∧ e ≤ B * vs.length ∧ b ∉ as
  | [], _ => ⟨_, _, _, .nil, Nat.zero_le _, by simp⟩
  | v :: vs, h => by
    obtain ⟨as, t, e, q, l, n⟩ := h v List.mem_cons_self
    obtain ⟨bs, us, f, r, m, o⟩ := Pv.all (vs := vs) fun w hw => h w (List.mem_cons_of_mem _ hw)
    refine ⟨_, _, _, q.cons1 r, ?_, ?_⟩
    · rw [List.length_cons, Nat.mul_succ]
      omega
    · intro z
      rcases List.mem_append.mp z with z | z
      · exact n z
      · exact o z
theorem Pv.each (h : ∃ as ts e, Shw H xs d as ts e ∧ e ≤ B ∧ b ∉ as) : ∀ v ∈ xs, ∃ e, Pv b H d e v ∧ e ≤ B := by
  obtain ⟨as, ts, e, q, l, n⟩ := h
  induction q with
  | nil => intro v hv; cases hv
  | non r ih =>
    intro v hv
    rcases List.mem_cons.mp hv with z | z
    · subst z; exact ⟨_, ⟨_, _, _, Shw.non Shw.nil, Nat.le_refl _, by simp⟩, by omega⟩
    · exact ih (by omega) n v z
  | bl c r ih =>
    intro v hv
    rcases List.mem_cons.mp hv with z | z
    · subst z; exact ⟨_, ⟨_, _, _, Shw.bl c Shw.nil, Nat.le_refl _, by simp⟩, by omega⟩
    · exact ih (by omega) n v z
  | int i hi r ih =>
    intro v hv
    rcases List.mem_cons.mp hv with z | z
    · subst z; exact ⟨_, ⟨_, _, _, Shw.int i hi Shw.nil, Nat.le_refl _, by simp⟩, by clear hi; omega⟩
    · exact ih (by clear hi; omega) n v z
  | str x hx hc r ih =>
    intro v hv
    rcases List.mem_cons.mp hv with z | z
    · subst z; exact ⟨_, ⟨_, _, _, Shw.str x hx hc Shw.nil, Nat.le_refl _, by simp⟩, by omega⟩
    · exact ih (by omega) n v z
  | strL x hx hc r ih =>
    intro v hv
    rcases List.mem_cons.mp hv with z | z
    · subst z; exact ⟨_, ⟨_, _, _, Shw.strL x hx hc Shw.nil, Nat.le_refl _, by simp⟩, by omega⟩
    · exact ih (by omega) n v z
  | lst h q hn r i1 i2 =>
    intro v hv
    have n1 := fun z => n (List.mem_append_left _ z)
    have n2 := fun z => n (List.mem_append_right _ z)
    rcases List.mem_cons.mp hv with z | z
    · subst z; exact ⟨_, ⟨_, _, _, Shw.lst h q hn Shw.nil, Nat.le_refl _, by simpa using n1⟩, by omega⟩
    · exact i2 (by omega) n2 v z
  | tup h q hn r i1 i2 =>
    intro v hv
    have n1 := fun z => n (List.mem_append_left _ z)
    have n2 := fun z => n (List.mem_append_right _ z)
    rcases List.mem_cons.mp hv with z | z
    · subst z; exact ⟨_, ⟨_, _, _, Shw.tup h q hn Shw.nil, Nat.le_refl _, by simpa using n1⟩, by omega⟩
    · exact i2 (by omega) n2 v z
  | dic ks h hk q hn r i1 i2 =>
    intro v hv
    have n1 := fun z => n (List.mem_append_left _ z)
    have n2 := fun z => n (List.mem_append_right _ z)
    rcases List.mem_cons.mp hv with z | z
    · subst z; exact ⟨_, ⟨_, _, _, Shw.dic ks h hk q hn Shw.nil, Nat.le_refl _, by simpa using n1⟩, by omega⟩
    · exact i2 (by omega) n2 v z
/-- the items of a tuple that prints -/
theorem Pv.items {a : Addr} (p : Pv b H d B (.ref a)) (h : H a = some (.tup xs)) : a ≠ b ∧ ∀ v ∈ xs, Pv b H d B v := by
  obtain ⟨as, t, e, q, l, n⟩ := p
  cases q with
  | lst h' => rw [h] at h'; cases h'
  | dic ks h' => rw [h] at h'; cases h'
  | @tup _ d0 _ _ _ _ ys bs us f h' q' hn r =>
    cases r
    rw [h] at h'
    cases h'
    refine ⟨fun z => n (by rw [z]; simp), fun v hv => ?_⟩
    obtain ⟨e', p, l'⟩ := Pv.each (b := b) (B := f) ⟨_, _, _, q', Nat.le_refl _, fun z => n (by simp [z])⟩ v hv
    exact p.mono (Nat.le_succ _) (by omega)
theorem ne_new {p : Addr} {o : HO} (hb : H b = some o) (hp : H p = none) : b ≠ p := ne_of_none hb hp
/-- a new tuple -/
theorem Pv.tup_new {p : Addr} {o : HO} (hb : H b = some o) (hp : H p = none) (k : ∀ v ∈ xs, Pv b H d B v) : Pv b (upd H p (.tup xs)) (d + 1) (10 + B * xs.length) (.ref p) := by
  obtain ⟨as, ts, e, q, l, n⟩ := Pv.all k
  refine ⟨_, _, _, .tup upd_same (q.keep fun a _ o h => new_ne h hp) (q.fresh hp) .nil, by omega, ?_⟩
  simp only [List.append_nil, List.mem_cons, not_or]
  exact ⟨ne_new hb hp, n⟩
/-- a new list -/
theorem Pv.lst_new {p : Addr} {o : HO} (hb : H b = some o) (hp : H p = none) (k : ∀ v ∈ xs, Pv b H d B v) : Pv b (upd H p (.lst xs)) (d + 1) (10 + B * xs.length) (.ref p) := by
  obtain ⟨as, ts, e, q, l, n⟩ := Pv.all k
  refine ⟨_, _, _, .lst upd_same (q.keep fun a _ o h => new_ne h hp) (q.fresh hp) .nil, by omega, ?_⟩
  simp only [List.append_nil, List.mem_cons, not_or]
  exact ⟨ne_new hb hp, n⟩
end
/-- a tuple at p of items zs that print -/
structure Tp (b : Addr) (H : Hp) (d B : Nat) (p : Addr) (zs : List V) : Prop where
  at_ : H p = some (.tup zs)
  its : ∀ v ∈ zs, Pv b H d B v
  all : Pv b H (d + 1) (10 + B * zs.length) (.ref p)
  ne : p ≠ b
theorem Tp.chg {b : Addr} {H H' : Hp} {d B : Nat} {p : Addr} {zs : List V} (t : Tp b H d B p zs) (k : Chb b H H') : Tp b H' d B p zs :=
  ⟨k _ _ t.ne t.at_, fun v hv => (t.its v hv).chg k, t.all.chg k, t.ne⟩
theorem Tp.new {b : Addr} {H : Hp} {o : HO} {d B : Nat} {p : Addr} {zs : List V} (hb : H b = some o) (hp : H p = none) (k : ∀ v ∈ zs, Pv b H d B v) : Tp b (upd H p (.tup zs)) d B p zs :=
  ⟨upd_same, fun v hv => (k v hv).chg (Chb.new hp), Pv.tup_new hb hp k, (ne_new hb hp).symm⟩
section
variable {X : Cx}
theorem cut_all {xs : List V} {lo hi : Option Int} (h : HT.sIx xs.length 0 lo = 0 ∧ HT.sIx xs.length xs.length hi = xs.length) : cutV xs lo hi = xs := by
  unfold cutV
  rw [h.1, h.2]
  simp
/-- t[lo:hi] of such a tuple -/
theorem sl_tp (b : Addr) (d B : Nat) : SlR X (fun x lo hi H Q => ∃ a xs o, x = .ref a ∧ H b = some o ∧ Tp b H d B a xs ∧ ∀ H' p, Same H H' → Tp b H' d B p (cutV xs lo hi) → Q (.ref p) H') := by
  intro pins s σ H x v vl vu lo hi sl Q I rx hs pl pu h
  obtain ⟨a, xs, o, rfl, hb, t, q⟩ := h
  refine sl_tupA pins s σ H _ v vl vu lo hi sl Q I rx hs pl pu ⟨a, xs, rfl, .inl (.inl t.at_), fun hw => ?_, fun _ p hp => ?_⟩
  · exact q H a (Same.refl H) (by rw [cut_all hw]; exact t)
  · exact q _ p (new_same hp) (.new hb hp fun v hv => t.its v (List.mem_of_mem_drop (List.mem_of_mem_take hv)))
/-- t + u of such tuples -/
theorem op_cattp (b : Addr) (d B : Nat) : OpR X (binaryOp .Add) (fun x y H Q => ∃ a c xs ys o, x = .ref a ∧ y = .ref c ∧ H b = some o ∧ Tp b H d B a xs ∧ Tp b H d B c ys ∧ xs.length + ys.length ≤ 1000 ∧ ∀ H' p, Same H H' → Tp b H' d B p (xs ++ ys) → Q (.ref p) H') := by
  intro pins s σ H x y v u Q I rx ry h
  obtain ⟨a, c, xs, ys, o, rfl, rfl, hb, t1, t2, hl, q⟩ := h
  refine op_catA pins s σ H _ _ v u Q I rx ry ⟨a, c, xs, ys, rfl, rfl, .inl (.inl t1.at_), .inl (.inl t2.at_), by rw [sizeLine_eq]; omega, fun hx => ?_, fun _ hy => ?_, fun _ _ p hp => ?_⟩
  · subst hx
    exact q H c (Same.refl H) t2
  · subst hy
    exact q H a (Same.refl H) (by rw [List.append_nil]; exact t1)
  · refine q _ p (new_same hp) (.new hb hp fun v hv => ?_)
    rcases List.mem_append.mp hv with z | z
    · exact t1.its v z
    · exact t2.its v z
end
/-- what is drawn from a menu -/
inductive Low (b : Addr) (H : Hp) : V → Prop
  | non : Low b H .non
  | bl (c : Bool) : Low b H (.bl c)
  | int (i : Int) (h : i.natAbs < 10 ^ 50) : Low b H (.int i)
  | str (x : PySem.Str) (h : x.length ≤ 50) (hc : ∀ k ∈ x.cps.toList, k < 16 ^ 8) : Low b H (.str x)
  | lst {a : Addr} {xs : List V} (n : a ≠ b) (h : H a = some (.lst xs)) : Low b H (.ref a)
  | dic {a : Addr} {kvs : List (Key × V)} (n : a ≠ b) (h : H a = some (.dK kvs)) : Low b H (.ref a)
  | tup {a : Addr} {xs : List V} (n : a ≠ b) (h : H a = some (.tup xs)) (hl : xs.length ≤ 4) (k : ∀ v ∈ xs, Low b H v) : Low b H (.ref a)
theorem Low.chg {b : Addr} {H H' : Hp} {v : V} (l : Low b H v) (k : Chb b H H') : Low b H' v := by
  induction l with
  | non => exact .non
  | bl c => exact .bl c
  | int i h => exact .int i h
  | str x h hc => exact .str x h hc
  | lst n h => exact .lst n (k _ _ n h)
  | dic n h => exact .dic n (k _ _ n h)
  | tup n h hl _ ih => exact .tup n (k _ _ n h) hl ih
def isI : V → Bool | .int _ => true | _ => false
def isB : V → Bool | .bl _ => true | _ => false
def isS : V → Bool | .str _ => true | _ => false
theorem kits (K : PySem.W.Frag) : (∀ T ∈ ["NoneType", "bool", "int", "str", "list", "dict", "tuple"], PySem.W.kitOne K (.type T) (.type "int") = some (decide (T = "int" ∨ T = "bool")) ∧ PySem.W.kitOne K (.type T) (.type "bool") = some (decide (T = "bool")) ∧
    PySem.W.kitOne K (.type T) (.type "str") = some (decide (T = "str")) ∧ PySem.W.kitOne K (.type T) (.type "tuple") = some (decide (T = "tuple"))) := by
  intro T hT
  simp only [List.mem_cons, List.mem_nil_iff, or_false, List.not_mem_nil] at hT
  rcases hT with rfl | rfl | rfl | rfl | rfl | rfl | rfl <;> exact ⟨by kernel_rfl, by kernel_rfl, by kernel_rfl, by kernel_rfl⟩
end V9
namespace V9
open PySem PySem.Spec PyProof.Rows L2
abbrev sBag : Stmt := topS 25
theorem scBag : FnScope ["script", "cell"] ["script"] (defScope sBag) := ⟨rfl, rfl, rfl, by decide +kernel, rfl, by decide +kernel, by decide +kernel⟩
/-- of what type a drawn value is -/
theorem Low.ty {b : Addr} {H : Hp} {v : V} (K : PySem.W.Frag) (l : Low b H v) : ∃ T, TyX K H v (.type T) ∧ PySem.W.kitOne K (.type T) (.type "int") = some (isI v || isB v) ∧ PySem.W.kitOne K (.type T) (.type "bool") = some (isB v) ∧
    PySem.W.kitOne K (.type T) (.type "str") = some (isS v) ∧ ∃ c, PySem.W.kitOne K (.type T) (.type "tuple") = some c ∧ (c = true → ∃ a xs, v = .ref a ∧ a ≠ b ∧ H a = some (.tup xs) ∧ xs.length ≤ 4 ∧ ∀ v ∈ xs, Low b H v) := by
  have k := kits K
  cases l with
  | non => obtain ⟨h1, h2, h3, h4⟩ := k "NoneType" (by decide); exact ⟨_, .base .non, h1, h2, h3, _, h4, fun e => absurd e (by decide)⟩
  | bl c => obtain ⟨h1, h2, h3, h4⟩ := k "bool" (by decide); exact ⟨_, .base (.bl c), h1, h2, h3, _, h4, fun e => absurd e (by decide)⟩
  | int i h => obtain ⟨h1, h2, h3, h4⟩ := k "int" (by decide); exact ⟨_, .base (.int i), h1, h2, h3, _, h4, fun e => absurd e (by decide)⟩
  | str x h hc => obtain ⟨h1, h2, h3, h4⟩ := k "str" (by decide); exact ⟨_, .base (.str x), h1, h2, h3, _, h4, fun e => absurd e (by decide)⟩
  | lst n h => obtain ⟨h1, h2, h3, h4⟩ := k "list" (by decide); exact ⟨_, .base (.lst h), h1, h2, h3, _, h4, fun e => absurd e (by decide)⟩
  | dic n h => obtain ⟨h1, h2, h3, h4⟩ := k "dict" (by decide); exact ⟨_, .base (.dK h), h1, h2, h3, _, h4, fun e => absurd e (by decide)⟩
  | tup n h hl hk => obtain ⟨h1, h2, h3, h4⟩ := k "tuple" (by decide); exact ⟨_, .base (.tup h), h1, h2, h3, _, h4, fun _ => ⟨_, _, rfl, n, h, hl, hk⟩⟩
section
variable {P : Program} {w : World} {K : PySem.W.Frag} {mg : PySem.Str → Option Value} {base : Heap}
def spBag (K : PySem.W.Frag) : Sp := fun vs H Q _ => ∃ (a : Addr) (ns : List Int), vs = [.ref a] ∧ SqL K H a (ns.map V.int) ∧ ns.length ≤ 63 ∧ ∀ H' b, Same H H' → H b = none → Bag H' b → Q (.ref b) H'
theorem ok_bag {f : Addr} {fd : FuncData} {k : Nat} (F : Fun K "_law_bag" "_law_bag" sBag f fd) (mA : mg "abs" = none) : FnOk P w K mg base CX0 (k + 1) f fd ["script"] (spBag K) := by
  refine F.ok scBag (fun vs H Q E h => ?_) (fun cdv A outer s H vs Q E hr h => ?_)
  · obtain ⟨a, ns, rfl, _⟩ := h
    rfl
  · obtain ⟨a, ns, rfl, hS, hl, q⟩ := h
    refine ⟨_, pss_one (ps_ret (pe_lst (pa_cons pe_int (pa_cons pe_int (pa_cons pe_int (pa_cons (pe_lc (own := [("cell", 1)]) (g := gName 1) rfl scBag.nd (pi_list (pe_slice sl_list (pv 0) po_none (po_some pe_int))) (blkOk_by (N := ["script", "cell"]) (sc := defScope sBag) (by decide +kernel))
      (fun _ _ _ _ _ => pg_name (i := 1) scBag.nd rfl (Or.inl rfl)) (fun _ _ _ _ _ => pts_nil) (fun _ _ _ _ _ => pe_callB call_abs (by rfl) mA (by decide +kernel) (pa_cons (pv 1) pa_nil))) pa_nil)))))), ?_⟩
    refine ⟨.ref a, rfl, 63, rfl, a, _, rfl, hS, fun p np => ⟨p, rfl, ⟨_, .inl (.inl upd_same)⟩, fun D nD => ?_⟩⟩
    generalize hzs : cutV (ns.map V.int) none (some 63) = zs at nD ⊢
    have hz : zs.length ≤ 63 := by
      rw [← hzs]
      refine Nat.le_trans (cutV_length _ _ _) ?_
      rw [List.length_map]
      exact hl
    have hint : ∀ v ∈ zs, ∃ c, v = V.int c := by
      intro v hv
      rw [← hzs] at hv
      obtain ⟨c, _, e⟩ := List.mem_map.mp (List.mem_of_mem_drop (List.mem_of_mem_take hv))
      exact ⟨c, e.symm⟩
    have pD : p ≠ D := ne_of_none upd_same nD
    have nDH : H D = none := by
      cases z : H D with
      | none => rfl
      | some o =>
        have := new_ne (u := .lst zs) z np
        rw [nD] at this
        cases this
    refine lc_list (K := K) (a := p) (xs := zs) (fun i Hc => ∃ cs : List Int, Hc D = some (.lst (cs.map V.int)) ∧ cs.length = i ∧ (∀ c ∈ cs, 0 ≤ c) ∧ Same H Hc ∧ Hc p = some (.lst zs))
      ⟨[], upd_same, rfl, fun c hc => (by cases hc), (new_same np).trans (new_same nD), new_ne upd_same nD⟩ (fun i Hc _ ⟨cs, _, _, _, _, hp⟩ => .inl (.inl hp)) (fun i x Hc hx ⟨cs, h1, h2, h3, h4, h5⟩ => ?_) (fun Hc ⟨cs, h1, h2, h3, h4, h5⟩ => ?_)
    · obtain ⟨c, rfl⟩ := hint x (List.mem_of_getElem? hx)
      refine ⟨rfl, _, rfl, c, rfl, cs.map V.int, h1, ?_, cs ++ [if c < 0 then -c else c], ?_, ?_, fun z hz => ?_, ?_, ?_⟩
      · have := (List.getElem?_eq_some_iff.mp hx).1
        rw [List.length_map, sizeLine_eq]
        omega
      · rw [upd_same, List.map_append]
        rfl
      · rw [List.length_append, h2]
        rfl
      · rcases List.mem_append.mp hz with e | e
        · exact h3 z e
        · rw [List.mem_singleton] at e
          subst e
          split <;> omega
      · intro y o e
        have : y ≠ D := ne_of_none e nDH
        rw [upd_ne this]
        exact h4 y o e
      · rw [upd_ne pD]
        exact h5
    · refine ⟨by show 4 ≤ sizeLine; decide, fun b nb => q _ b (h4.trans (new_same nb)) ?_ ⟨0, 1234567891, 0, D, cs, upd_same, ?_, ne_of_none h1 nb, by decide, by decide, by decide, by omega, h3⟩⟩
      · cases z : H b with
        | none => rfl
        | some o =>
          have := h4 b o z
          rw [nb] at this
          cases this
      · exact new_ne h1 nb
end
end V9
/-! Values of which it is known what they are; repr of any of them. -/
namespace V9
open PySem PySem.Spec PyProof.Rows L2
/-- v prints, so it is known what it is -/
def Kn (H : Hp) (v : V) : Prop := ∃ d as t c, Shw H [v] d as [t] c
theorem Pv.kn {b : Addr} {H : Hp} {d B : Nat} {v : V} (p : Pv b H d B v) : Kn H v := by
  obtain ⟨as, t, e, q, _⟩ := p
  exact ⟨_, _, _, _, q⟩
theorem Shw.alone {H : Hp} {v : V} {vs : List V} {d : Nat} {as : List Addr} {ts : List PySem.Str} {c : Nat} (h : Shw H vs d as ts c) (hv : v ∈ vs) : Kn H v := by
  obtain ⟨as, t, e, q, _⟩ := h.each v hv
  exact ⟨_, _, _, _, q⟩
/-- what a value is -/
inductive Kind (H : Hp) : V → Prop
  | non : Kind H .non
  | bl (c : Bool) : Kind H (.bl c)
  | int (i : Int) (h : i.natAbs < 10 ^ 60) : Kind H (.int i)
  | str (x : PySem.Str) (h : x.length ≤ 5000) (hc : ∀ k ∈ x.cps.toList, k < 16 ^ 8) : Kind H (.str x)
  | lst {a : Addr} {xs : List V} (h : H a = some (.lst xs)) : Kind H (.ref a)
  | dic {a : Addr} {kvs : List (Key × V)} (h : H a = some (.dK kvs)) : Kind H (.ref a)
  | tup {a : Addr} {xs : List V} (h : H a = some (.tup xs)) (k : ∀ v ∈ xs, Kn H v) : Kind H (.ref a)
theorem Kn.kind {H : Hp} {v : V} (k : Kn H v) : Kind H v := by
  obtain ⟨d, as, t, c, h⟩ := k
  generalize hv : [v] = vs at h
  cases h with
  | non r => cases hv; exact .non
  | bl b r => cases hv; exact .bl b
  | int i hi r => cases hv; exact .int i hi
  | str x hx hc r => cases hv; exact .str x (by omega) hc
  | strL x hx hc r => cases hv; exact .str x hx hc
  | lst h p hn r => cases hv; exact .lst h
  | tup h p hn r => cases hv; exact .tup h fun v hv => p.alone hv
  | dic ks h hk p hn r => cases hv; exact .dic h
theorem Kn.same {H H' : Hp} {v : V} (k : Kn H v) (s : Same H H') : Kn H' v := by
  obtain ⟨d, as, t, c, h⟩ := k
  exact ⟨d, as, t, c, h.keep fun b _ o e => s b o e⟩
/-- of what type it is -/
theorem Kind.ty {H : Hp} {v : V} (K : PySem.W.Frag) (l : Kind H v) : ∃ T, TyX K H v (.type T) ∧ PySem.W.kitOne K (.type T) (.type "int") = some (isI v || isB v) ∧ PySem.W.kitOne K (.type T) (.type "bool") = some (isB v) ∧
    PySem.W.kitOne K (.type T) (.type "str") = some (isS v) ∧ ∃ c, PySem.W.kitOne K (.type T) (.type "tuple") = some c ∧ (c = true → ∃ a xs, v = .ref a ∧ H a = some (.tup xs) ∧ ∀ v ∈ xs, Kn H v) ∧ (c = false → ∀ a xs, v = .ref a → H a ≠ some (.tup xs)) := by
  have k := kits K
  cases l with
  | non => obtain ⟨h1, h2, h3, h4⟩ := k "NoneType" (by decide); exact ⟨_, .base .non, h1, h2, h3, _, h4, fun e => absurd e (by decide), fun _ a xs z => nomatch z⟩
  | bl c => obtain ⟨h1, h2, h3, h4⟩ := k "bool" (by decide); exact ⟨_, .base (.bl c), h1, h2, h3, _, h4, fun e => absurd e (by decide), fun _ a xs z => nomatch z⟩
  | int i h => obtain ⟨h1, h2, h3, h4⟩ := k "int" (by decide); exact ⟨_, .base (.int i), h1, h2, h3, _, h4, fun e => absurd e (by decide), fun _ a xs z => nomatch z⟩
  | str x h hc => obtain ⟨h1, h2, h3, h4⟩ := k "str" (by decide); exact ⟨_, .base (.str x), h1, h2, h3, _, h4, fun e => absurd e (by decide), fun _ a xs z => nomatch z⟩
  | lst h => obtain ⟨h1, h2, h3, h4⟩ := k "list" (by decide); exact ⟨_, .base (.lst h), h1, h2, h3, _, h4, fun e => absurd e (by decide), fun _ a xs z y => by cases z; rw [h] at y; cases y⟩
  | dic h => obtain ⟨h1, h2, h3, h4⟩ := k "dict" (by decide); exact ⟨_, .base (.dK h), h1, h2, h3, _, h4, fun e => absurd e (by decide), fun _ a xs z y => by cases z; rw [h] at y; cases y⟩
  | tup h hk => obtain ⟨h1, h2, h3, h4⟩ := k "tuple" (by decide); exact ⟨_, .base (.tup h), h1, h2, h3, _, h4, fun _ => ⟨_, _, rfl, h, hk⟩, fun e => absurd e (by decide)⟩
section
variable {X : Cx}
/-- repr(x), x of any kind -/
theorem call_reprV (hg : X.A.guards = some []) (hu : X.A.units + 64 < cLine) : CallR X (.builtin "repr") (fun vs H Q => ∃ (v : V) (d : Nat) (as : List Addr) (t : Str) (c : Nat), vs = [v] ∧ Shw H [v] d as [t] c ∧ d ≤ 60 ∧ c ≤ 16000000 ∧ Q (.str t) H) := by
  intro pins s σ H xs us Q I r h
  obtain ⟨v, d, as, t, c, rfl, hs, hd, hc, q⟩ := h
  obtain ⟨u, rfl, r1⟩ := vals1 r
  have hz : sizeLine = 16777216 := sizeLine_eq
  have hcost := hs.cost
  rw [piled_cons] at hcost
  have fin : ∀ tk, EP X pins σ Q (.str t s.toks) { s with toks := tk } := fun tk => ⟨.str _, H, I.tok _, ⟨_, rfl⟩, q⟩
  cases hs with
  | non r2 =>
    cases (show u = Value.none from r1)
    cases r2
    exact PySem.P.repr_of_none (fin _)
  | bl b r2 =>
    cases (show u = Value.bool b from r1)
    cases r2
    cases b <;> exact PySem.P.repr_of_bool (fin _)
  | int i hi r2 =>
    obtain ⟨tk, rfl⟩ := r1
    cases r2
    refine PySem.P.repr_of_int ?_ (fin _)
    by_cases h0 : i.natAbs = 0
    · rw [h0]; decide
    · exact (Nat.log2_lt h0).mpr (Nat.lt_trans hi (by decide +kernel))
  | str x hx hk r2 =>
    obtain ⟨tk, rfl⟩ := r1
    cases r2
    refine PySem.P.repr_of_str (fin _) ?_
    have := StrLaws.reprText_len x hk
    omega
  | strL x hx hk r2 =>
    obtain ⟨tk, rfl⟩ := r1
    cases r2
    refine PySem.P.repr_of_str (fin _) ?_
    have := StrLaws.reprText_len x hk
    omega
  | @lst _ d0 _ _ _ a ys bs ts e hp q1 hn r2 =>
    cases r2
    cases (show u = Value.ref a from r1)
    obtain ⟨_, its, n, rx, hgt⟩ := (show ObjOk X.prog X.w H s.heap a (.lst ys) from I.hok a _ hp)
    have k := q1.runs I (by omega) its rx
    refine call_repr_slot (T := "list") (idr := "list.__repr__") (by omega) ⟨_, hgt, rfl⟩ PySem.F.slot_list_repr.toG ?_
    cases its with
    | nil =>
      cases k
      exact call_list_repr_empty ⟨_, hgt, rfl⟩ hgt rfl ⟨_, _, rfl, .str _, H, I.tok _, ⟨_, rfl⟩, q⟩
    | cons y l =>
      refine call_list_reprK (g := []) hgt rfl rfl hn (by simpa using k.length_eq) (fun i z hz => k.item i z (by simpa using hz)) hg (fun b _ => Clear.nil b) ?_ (fun _ _ e => e) (fun h' u tk hk => ?_) (by omega)
      · show X.A.units + 1 + (d0 + 1) < cLine
        omega
      · exact ⟨_, _, rfl, .str _, H, I.kept (t' := tk) hk, ⟨_, rfl⟩, q⟩
  | @tup _ d0 _ _ _ a ys bs ts e hp q1 hn r2 =>
    cases r2
    cases (show u = Value.ref a from r1)
    obtain ⟨_, its, rx, ob, hgt, hcl, n, hda⟩ := (show ObjOk X.prog X.w H s.heap a (.tup ys) from I.hok a _ hp)
    have k := q1.runs I (by omega) its rx
    refine call_repr_slot (T := "tuple") (idr := "tuple.__repr__") (by omega) ⟨_, hgt, hcl⟩ PySem.F.slot_tuple_repr ?_
    refine call_tuple_reprK (g := []) hgt hcl hda hn (by simpa using k) hg (fun b _ => Clear.nil b) ?_ (fun _ _ e => e) (fun h' u tk hk => ?_) (by omega)
    · show X.A.units + 1 + (d0 + 1) < cLine
      omega
    · exact ⟨_, _, rfl, .str _, H, I.kept (t' := tk) hk, ⟨_, rfl⟩, q⟩
  | @dic _ d0 _ _ _ a bs ts e ks hp hk q1 hn r2 =>
    cases r2
    cases (show u = Value.ref a from r1)
    obtain ⟨_, hsm, vv, rk, ob, es, ep, hgt, hex, hda, _, hpr, _⟩ := (show ObjOk X.prog X.w H s.heap a (.dK (ks.map fun p => (Sum.inr p.1, p.2))) from I.hok a _ hp)
    refine call_repr_slot (T := "dict") (idr := "dict.__repr__") (by omega) ⟨_, hgt, hex.1⟩ PySem.F.slot_dict_repr ?_
    refine call_dict_reprK (g := []) hgt hex.1 hda hsm hn (entries ks vv es.toList _ rk hpr hk fun ws hw => q1.runs I (by omega) ws hw) hg (fun b _ => Clear.nil b) ?_ (fun _ _ e => e) (fun h' u tk hk => ?_) (by omega)
    · show X.A.units + 1 + (d0 + 1) < cLine
      omega
    · exact ⟨_, _, rfl, .str _, H, I.kept (t' := tk) hk, ⟨_, rfl⟩, q⟩
end
end V9
namespace V9
open PySem PySem.Spec PyProof.Rows L2 TL
abbrev sVersion : Stmt := topS 31
theorem scVersion : FnScope ["bag", "menu", "part"] ["bag"] (defScope sVersion) := ⟨rfl, rfl, rfl, by decide +kernel, rfl, by decide +kernel, by decide +kernel⟩
/-- a version's numbers -/
def Vs (ns : List Int) : Prop := ns.length = 3 ∧ ∀ n ∈ ns, 0 ≤ n ∧ n < 1000000
theorem vs3 {a b c : Int} (ha : 0 ≤ a ∧ a < 1000000) (hb : 0 ≤ b ∧ b < 1000000) (hc : 0 ≤ c ∧ c < 1000000) : Vs [a, b, c] := ⟨rfl, fun n hn => by
  simp only [List.mem_cons, List.not_mem_nil, or_false] at hn
  rcases hn with e | e | e
  · exact e ▸ ha
  · exact e ▸ hb
  · exact e ▸ hc⟩
theorem Bag.same {b : Addr} {H H' : Hp} (B : Bag H b) (s : Same H H') : Bag H' b := by
  obtain ⟨n, m, k, l, cs, hb, hl, r⟩ := B
  exact ⟨n, m, k, l, cs, s _ _ hb, s _ _ hl, r⟩
theorem Bag.lst {b : Addr} {H : Hp} (B : Bag H b) : ∃ o, H b = some o := by
  obtain ⟨n, m, k, l, cs, hb, _⟩ := B
  exact ⟨_, hb⟩
/-- the bag's own list -/
def Own (H : Hp) (b l : Addr) : Prop := ∃ x y z, H b = some (.lst [x, y, z, .ref l])
theorem Bag.own {b : Addr} {H : Hp} (B : Bag H b) : ∃ l cs, Own H b l ∧ H l = some (.lst cs) ∧ l ≠ b := by
  obtain ⟨n, m, k, l, cs, hb, hl, hne, _⟩ := B
  exact ⟨l, _, ⟨_, _, _, hb⟩, hl, hne⟩
theorem Own.chb {b l : Addr} {H H' : Hp} (o : Own H b l) (c : Chb b H H') : Own H' b l := by
  obtain ⟨x, y, z, h⟩ := o
  exact c.fo _ _ _ _ h
/-- another object changed -/
theorem Bag.set {b l r : Addr} {H : Hp} {o : HO} (B : Bag H b) (w : Own H b l) (h1 : r ≠ b) (h2 : r ≠ l) : Bag (upd H r o) b ∧ Own (upd H r o) b l := by
  obtain ⟨n, m, k, l', cs, hb, hl, rest⟩ := B
  obtain ⟨x, y, z, hw⟩ := w
  rw [hb] at hw
  cases hw
  have e1 : upd H r o b = some (.lst [.int n, .int m, .int k, .ref l]) := by rw [upd_ne h1.symm]; exact hb
  have e2 : upd H r o l = some (.lst (cs.map V.int)) := by rw [upd_ne h2.symm]; exact hl
  exact ⟨⟨n, m, k, l, cs, e1, e2, rest⟩, ⟨_, _, _, e1⟩⟩
theorem Chb.put {b r : Addr} {H H' : Hp} {o : HO} (c : Chb b H H') (n : H r = none) (h : r ≠ b) : Chb b H (upd H' r o) := ⟨fun a u ne e => by
  rw [upd_ne (ne_of_none e n)]
  exact c.app a u ne e, fun x y z l e => by
  obtain ⟨p, q, s, e'⟩ := c.fo x y z l e
  exact ⟨p, q, s, by rw [upd_ne h.symm]; exact e'⟩⟩
section
variable {P : Program} {w : World} {K : PySem.W.Frag} {mg : PySem.Str → Option Value} {base : Heap}
def spVersion : Sp := fun vs H Q _ => ∃ b : Addr, vs = [.ref b] ∧ Bag H b ∧ ∀ H' p ns, Chb b H H' → Bag H' b → H' p = some (.tup (ns.map V.int)) → Vs ns → p ≠ b → Q (.ref p) H'
theorem ok_version {f fO fT : Addr} {fd fdO fdT : FuncData} {k : Nat} (F : Fun K "_law_version" "_law_version" sVersion f fd) (FO : Fun K "_law_one" "_law_one" sOne fO fdO) (bO : Binds K fdO ["bag", "things"] []) (gO : mg "_law_one" = some (.ref fO))
    (FT : Fun K "_law_take" "_law_take" sTake fT fdT) (bT : Binds K fdT ["bag", "many"] []) (gT : mg "_law_take" = some (.ref fT)) (mI : mg "int" = none) (mL : mg "len" = none) (mR : mg "range" = none) (mU : mg "tuple" = none) :
    FnOk P w K mg base CX0 (k + 3) f fd ["bag"] spVersion := by
  have GO : FnOk P w K mg base CX0 (k + 2) fO fdO ["bag", "things"] spOne := ok_one FO FT bT gT mI mL
  refine F.ok scVersion (fun vs H Q E h => ?_) (fun cdv A outer s H vs Q E hr h => ?_)
  · obtain ⟨b, rfl, _⟩ := h
    rfl
  · obtain ⟨b, rfl, hB, q⟩ := h
    refine ⟨_, pss_cons (ps_set (i := 1) scVersion.nd rfl (.inr rfl) (pe_call GO hr (by rfl) gO FO.kp bO .nil pass0 (pa_cons (pv 0) (pa_cons (pe_lst (pa_cons (pe_lst (pa_cons pe_int (pa_cons pe_int (pa_cons pe_int pa_nil)))) (pa_cons (pe_lst (pa_cons pe_int (pa_cons pe_int pa_nil))) (pa_cons (pe_lst (pa_cons pe_int (pa_cons pe_int (pa_cons pe_int pa_nil))))
        (pa_cons (pe_lst (pa_cons pe_int (pa_cons pe_int (pa_cons pe_int pa_nil)))) pa_nil))))) pa_nil))))
      (pss_one (ps_ret (pe_callTy call_tuple_of (by rfl) mU (by decide +kernel) (pa_cons (pe_lc (own := [("part", 2)]) (g := gName 2) rfl scVersion.nd (pi_range1 (by rfl) mR (pa_cons pe_int pa_nil)) (blkOk_by (N := ["bag", "menu", "part"]) (sc := defScope sVersion) (by decide +kernel))
        (fun _ _ _ _ _ => pg_name (i := 2) scVersion.nd rfl (Or.inl rfl)) (fun _ _ _ _ _ => pts_nil) (fun _ _ _ _ _ => pe_call GO hr (by rfl) gO FO.kp bO .nil pass0 (pa_cons (pv 0) (pa_cons (pv 1) pa_nil)))) pa_nil)))), ?_⟩
    obtain ⟨ob, hb⟩ := hB.lst
    refine ⟨.ref b, rfl, by show 3 ≤ sizeLine; decide, fun p1 n1 => ⟨by show 2 ≤ sizeLine; decide, fun p2 n2 => ⟨by show 3 ≤ sizeLine; decide, fun p3 n3 => ⟨by show 3 ≤ sizeLine; decide, fun p4 n4 => ⟨by show 4 ≤ sizeLine; decide, fun p5 n5 => ?_⟩⟩⟩⟩⟩
    have b1 := new_ne (u := .lst [.int 0, .int 1, .int 2]) hb n1
    have b2 := new_ne (u := .lst [.int 0, .int 1]) b1 n2
    have b3 := new_ne (u := .lst [.int 1, .int 2, .int 10]) b2 n3
    have b4 := new_ne (u := .lst [.int 0, .int 999999, .int 1]) b3 n4
    have small : ∀ x : V, ∀ xs : List V, x ∈ xs → xs ∈ [[V.int 0, .int 1, .int 2], [.int 0, .int 1], [.int 1, .int 2, .int 10], [.int 0, .int 999999, .int 1]] → ∃ n : Int, x = .int n ∧ 0 ≤ n ∧ n < 1000000 := by
      intro x xs hx hxs
      simp only [List.mem_cons, List.not_mem_nil, or_false] at hxs
      rcases hxs with e | e | e | e <;> subst e <;> simp only [List.mem_cons, List.not_mem_nil, or_false] at hx
      · rcases hx with e | e | e <;> exact ⟨_, e, by decide, by decide⟩
      · rcases hx with e | e <;> exact ⟨_, e, by decide, by decide⟩
      · rcases hx with e | e | e <;> exact ⟨_, e, by decide, by decide⟩
      · rcases hx with e | e | e <;> exact ⟨_, e, by decide, by decide⟩
    have q1 : upd (upd (upd (upd H p1 (.lst [.int 0, .int 1, .int 2])) p2 (.lst [.int 0, .int 1])) p3 (.lst [.int 1, .int 2, .int 10])) p4 (.lst [.int 0, .int 999999, .int 1]) p1 = some (.lst [.int 0, .int 1, .int 2]) := new_ne (new_ne (new_ne upd_same n2) n3) n4
    have q2 : upd (upd (upd (upd H p1 (.lst [.int 0, .int 1, .int 2])) p2 (.lst [.int 0, .int 1])) p3 (.lst [.int 1, .int 2, .int 10])) p4 (.lst [.int 0, .int 999999, .int 1]) p2 = some (.lst [.int 0, .int 1]) := new_ne (new_ne upd_same n3) n4
    have q3 : upd (upd (upd (upd H p1 (.lst [.int 0, .int 1, .int 2])) p2 (.lst [.int 0, .int 1])) p3 (.lst [.int 1, .int 2, .int 10])) p4 (.lst [.int 0, .int 999999, .int 1]) p3 = some (.lst [.int 1, .int 2, .int 10]) := new_ne upd_same n4
    have q4 : upd (upd (upd (upd H p1 (.lst [.int 0, .int 1, .int 2])) p2 (.lst [.int 0, .int 1])) p3 (.lst [.int 1, .int 2, .int 10])) p4 (.lst [.int 0, .int 999999, .int 1]) p4 = some (.lst [.int 0, .int 999999, .int 1]) := upd_same
    have s4 : Same H (upd (upd (upd (upd H p1 (.lst [.int 0, .int 1, .int 2])) p2 (.lst [.int 0, .int 1])) p3 (.lst [.int 1, .int 2, .int 10])) p4 (.lst [.int 0, .int 999999, .int 1])) := (((new_same n1).trans (new_same n2)).trans (new_same n3)).trans (new_same n4)
    generalize upd (upd (upd (upd H p1 (.lst [.int 0, .int 1, .int 2])) p2 (.lst [.int 0, .int 1])) p3 (.lst [.int 1, .int 2, .int 10])) p4 (.lst [.int 0, .int 999999, .int 1]) = H4 at n5 q1 q2 q3 q4 s4 b4 ⊢
    have ne : ∀ p xs, H4 p = some (.lst xs) → H p = none → p ≠ b := fun p xs _ hn => (ne_of_none hb hn).symm
    have m1 : p1 ≠ b := (ne_of_none hb n1).symm
    have m2 : p2 ≠ b := (ne_of_none b1 n2).symm
    have m3 : p3 ≠ b := (ne_of_none b2 n3).symm
    have m4 : p4 ≠ b := (ne_of_none b3 n4).symm
    have B5 : Bag (upd H4 p5 (.lst [.ref p1, .ref p2, .ref p3, .ref p4])) b := (hB.same s4).same (new_same n5)
    have cH : Chb b H (upd H4 p5 (.lst [.ref p1, .ref p2, .ref p3, .ref p4])) := (Chb.same s4).trans (Chb.new n5)
    refine ⟨b, p5, _, rfl, B5, upd_same, (ne_of_none b4 n5).symm, by simp, by show 4 ≤ 1000; decide, fun H6 x c6 B6 hx => ?_⟩
    obtain ⟨mn, xs, rfl, hmb, hm, hxs⟩ : ∃ mn xs, x = .ref mn ∧ mn ≠ b ∧ H6 mn = some (.lst xs) ∧ xs ∈ [[V.int 0, .int 1, .int 2], [.int 0, .int 1], [.int 1, .int 2, .int 10], [.int 0, .int 999999, .int 1]] := by
      simp only [List.mem_cons, List.not_mem_nil, or_false] at hx
      rcases hx with e | e | e | e
      · exact ⟨p1, _, e, m1, c6 _ _ m1 (new_ne q1 n5), by simp⟩
      · exact ⟨p2, _, e, m2, c6 _ _ m2 (new_ne q2 n5), by simp⟩
      · exact ⟨p3, _, e, m3, c6 _ _ m3 (new_ne q3 n5), by simp⟩
      · exact ⟨p4, _, e, m4, c6 _ _ m4 (new_ne q4 n5), by simp⟩
    have hxl : xs ≠ [] ∧ xs.length ≤ 1000 := by
      simp only [List.mem_cons, List.not_mem_nil, or_false] at hxs
      rcases hxs with e | e | e | e <;> subst e <;> exact ⟨by simp, by decide⟩
    obtain ⟨o6, hb6⟩ := B6.lst
    obtain ⟨lc, cs0, O6, hlc, lcb⟩ := B6.own
    refine ⟨3, rfl, by decide, by decide, fun Dl nD => ?_⟩
    have db : Dl ≠ b := (ne_of_none hb6 nD).symm
    have dl : Dl ≠ lc := (ne_of_none hlc nD).symm
    refine lc_range (lo := 0) (n := 3) (fun j Hc => Chb b H6 Hc ∧ Bag Hc b ∧ ∃ ns : List Int, Hc Dl = some (.lst (ns.map V.int)) ∧ ns.length = j ∧ ∀ n ∈ ns, 0 ≤ n ∧ n < 1000000) ⟨Chb.new nD, B6.same (new_same nD), [], upd_same, rfl, fun n hn => by cases hn⟩ (fun j Hc hj hP => ?_) (fun Hc hP => ?_)
    · obtain ⟨c7, B7, ns, d1, d2, d3⟩ := hP
      refine ⟨rfl, .ref b, rfl, .ref mn, rfl, b, mn, xs, rfl, B7, c7 _ _ hmb hm, hmb, hxl.1, hxl.2, fun H8 y c8 B8 hy => ?_⟩
      obtain ⟨n, rfl, n0, n1⟩ := small y xs hy hxs
      have d8 := c8 _ _ db d1
      have c68 := c7.trans c8
      refine ⟨ns.map V.int, d8, by rw [List.length_map, sizeLine_eq]; omega, c68.put nD db, (B8.set (O6.chb c68) db dl).1, ns ++ [n], ?_, by rw [List.length_append, d2]; rfl, fun m hm => ?_⟩
      · rw [List.map_append]
        exact upd_same
      · rcases List.mem_append.mp hm with e | e
        · exact d3 m e
        · rw [List.mem_singleton] at e
          subst e
          exact ⟨n0, n1⟩
    · obtain ⟨c7, B7, ns, d1, d2, d3⟩ := hP
      obtain ⟨o7, hb7⟩ := B7.lst
      refine ⟨Dl, ns.map V.int, rfl, .inl ⟨.inl (.inl d1), fun r nr => ?_⟩⟩
      exact q _ r ns (((cH.trans c6).trans c7).trans (Chb.new nr)) (B7.same (new_same nr)) upd_same ⟨d2, d3⟩ (ne_of_none hb7 nr).symm
end
end V9
/-! Sets of texts: one is made of a list, its members come sorted. -/
namespace TX
open PySem PySem.Spec PyProof.Rows L2
/-- a text in a set, with its hash -/
def Gt (P : Program) (w : World) (e : Int × Value) : Prop := ∃ (x : PySem.Str) (tk : Tok), e.2 = .str x tk ∧ e.1 = (PySem.strKind P w).hash x
def kt (e : Int × Value) : PySem.Str := strOf e.2
/-- the set at a has just the texts of xs -/
def SX (P : Program) (w : World) (h : Heap) (a : Addr) (xs : List PySem.Str) : Prop := ∃ o es ep t,
  (h.get? a = some o ∧ o.ExactSet ∧ o.data = .set es ep t) ∧ ((∀ e ∈ es.toList, Gt P w e) ∧ (es.toList.map kt).Nodup ∧ ∀ x, x ∈ xs ↔ x ∈ es.toList.map kt) ∧
  (es.size < scanBound ∧ t.fits es.size = true ∧ es.size ≤ xs.length) ∧ Ris t.place.toList ∧ (w.params.followText "set-order" = true ∨ t.led = true)
section
variable {P : Program} {w : World} {h h' : Heap} {a : Addr} {xs : List PySem.Str}
theorem SX.keep (R : SX P w h a xs) (k : ∀ o, h.get? a = some o → h'.get? a = some o) : SX P w h' a xs := by
  obtain ⟨o, es, ep, t, ⟨ho, r⟩, q⟩ := R
  exact ⟨o, es, ep, t, ⟨k o ho, r⟩, q⟩
theorem SX.alike {ys : List PySem.Str} (R : SX P w h a xs) (k : ∀ x, x ∈ ys ↔ x ∈ xs) (hl : xs.length ≤ ys.length) : SX P w h a ys := by
  obtain ⟨o, es, ep, t, r, ⟨g, n, m⟩, ⟨q1, q2, q3⟩, z⟩ := R
  exact ⟨o, es, ep, t, r, ⟨g, n, fun x => (k x).trans (m x)⟩, ⟨q1, q2, Nat.le_trans q3 hl⟩, z⟩
theorem gt_is {e : Int × Value} (g : Gt P w e) (x : PySem.Str) : (PySem.strKind P w).is x e.2 = true ↔ kt e = x := by
  obtain ⟨y, tk, h1, _⟩ := g
  unfold kt
  rw [h1]
  refine ⟨fun z => ?_, fun z => ?_⟩
  · exact (PySem.strKind P w).inj (.str y tk) y x (strKind_is P w y tk) z
  · have z' : y = x := z
    rw [← z']
    exact strKind_is P w y tk
theorem gt_elems {l : List (Int × Value)} (g : ∀ e ∈ l, Gt P w e) : ElemsOf (PySem.strKind P w) l := fun e he => by
  obtain ⟨x, tk, h1, h2⟩ := g e he
  exact ⟨⟨x, (gt_is (g e he) x).2 (by unfold kt; rw [h1]; rfl), h2⟩, by rw [h1] <;> rfl⟩
theorem gt_mem {l : List (Int × Value)} (g : ∀ e ∈ l, Gt P w e) (x : PySem.Str) : x ∈ l.map kt ↔ ∃ e ∈ l, (PySem.strKind P w).is x e.2 = true := by
  refine ⟨fun z => ?_, fun ⟨e, he, q⟩ => List.mem_map.mpr ⟨e, he, (gt_is (g e he) x).1 q⟩⟩
  obtain ⟨e, he, q⟩ := List.mem_map.mp z
  exact ⟨e, he, (gt_is (g e he) x).2 q⟩
theorem SX.fresh (ho : h.get? a = some { cls := .type "set", dict := none, data := .set #[] 0 (.fresh 0 0 (!w.params.followText "set-order")) }) : SX P w h a [] := by
  refine ⟨_, #[], 0, _, ⟨ho, ⟨rfl, rfl, rfl⟩, rfl⟩, ⟨fun e he => (by simp at he), (by simp), fun x => (by simp)⟩, ⟨(by decide), (by rfl), (by decide)⟩, List.Pairwise.nil, ?_⟩
  show _ ∨ (!w.params.followText "set-order") = true
  cases w.params.followText "set-order"
  · exact .inr rfl
  · exact .inl rfl
end
section
variable {P : Program} {w : World} {A : Around} {E : Value → Shared → Prop} {s : Shared} {a : Addr} {xs : List PySem.Str}
theorem put_tail {g : Bool → Sem Unit} (hg : ∀ (b : Bool) (s1 : Shared) (Z : Unit → Shared → Prop), Z () s1 → wpAny (model P w) A (g b) Z E s1) {o : Obj} {es es1 : Array (Int × Value)} {ep : Nat} {t t2 : SetTable} {ys : List PySem.Str}
    (ho : s.heap.get? a = some o) (hex : o.ExactSet) (hd : o.data = .set es ep t) (g1 : ∀ e ∈ es1.toList, Gt P w e) (n1 : (es1.toList.map kt).Nodup) (m1 : ∀ x, x ∈ ys ↔ x ∈ es1.toList.map kt)
    (hb : es1.size < scanBound) (hf : t2.fits es1.size = true) (hy : es1.size ≤ ys.length) (hr : Ris t2.place.toList) (hl : w.params.followText "set-order" = true ∨ t2.led = true) {dm : Bool} {R : Option Bool → Shared → Prop}
    (hR : ∀ h', Heap.SameBut a s.heap h' → SX P w h' a ys → R (some true) { s with heap := h' }) :
    wpAny (model P w) A (do
      storeSet a es1 t2
      if (!dm && t2.tooFull) = true then do
          g (relayAll t2 es1 (SetTable.grown es1.size)).2.2
          storeSet a (relayAll t2 es1 (SetTable.grown es1.size)).1 (relayAll t2 es1 (SetTable.grown es1.size)).2.1
          pure (some true)
        else pure (some true)) R E s := by
  refine wpAny_bind (wpAny_storeSet_of ho hd ?_ (fits_of_scanBound hb))
  have o1 := store_at (es' := es1) (t' := t2) ho hd
  have b1 := Heap.SameBut.update s.heap a (Obj.putSet es1 t2)
  split
  · have p3 := relayAll_perm t2 es1 (SetTable.grown es1.size)
    have f3 := relayAll_fits t2 es1 (SetTable.grown es1.size)
    have r3 := relayAll_ris t2 es1 (SetTable.grown es1.size)
    have l3 := relayAll_led t2 es1 (SetTable.grown es1.size)
    generalize relayAll t2 es1 (SetTable.grown es1.size) = Z at p3 f3 r3 l3 ⊢
    obtain ⟨es2, t3, gave⟩ := Z
    dsimp only at p3 f3 r3 l3 ⊢
    have z : es2.size = es1.size := by rw [← Array.length_toList, p3.length_eq, Array.length_toList]
    refine wpAny_bind (hg _ _ _ (wpAny_bind (wpAny_storeSet_of o1 rfl ?_ (fits_of_scanBound (by rw [z]; exact hb)))))
    refine wpAny_pure (hR _ (b1.trans (Heap.SameBut.update _ a _)) ⟨_, es2, _, t3, ⟨store_at (es' := es2) (t' := t3) o1 rfl, hex, rfl⟩, ⟨fun e he => g1 e (p3.mem_iff.mp he), (p3.map kt).nodup_iff.mpr n1, fun x => (m1 x).trans (p3.map kt).mem_iff.symm⟩,
      ⟨by rw [z]; exact hb, f3, by rw [z]; exact hy⟩, r3, hl.imp id fun q => by rw [l3]; exact q⟩)
  · exact wpAny_pure (hR _ b1 ⟨_, es1, _, t2, ⟨o1, hex, rfl⟩, ⟨g1, n1, m1⟩, ⟨hb, hf, hy⟩, hr, hl⟩)
/-- one text more -/
theorem add_hashed {x : PySem.Str} {tk : Tok} {Q : Bool → Shared → Prop} (R : SX P w s.heap a xs) (room : xs.length + 1 < scanBound)
    (hQ : ∀ (b : Bool) h', Heap.SameBut a s.heap h' → SX P w h' a (xs ++ [x]) → Q b { s with heap := h' }) : wpAny (model P w) A (setAddHashed a (.str x tk) ((PySem.strKind P w).hash x)) Q E s := by
  have R0 := R
  obtain ⟨o, es, ep, t, ⟨ho, hex, hd⟩, ⟨g, nd, hm⟩, ⟨hb, hf, hn⟩, hr, hl⟩ := R
  have hkey : (PySem.strKind P w).is x (.str x tk) = true := strKind_is P w x tk
  have hsc : (Value.str x tk).scannable = true := rfl
  have hel : ElemsOf (PySem.strKind P w) es.toList := gt_elems g
  unfold setAddHashed setAddHashedIn
  refine wpAny_holding (wpAny_bind (wpAny_setState_of ho hd hf ?_))
  dsimp only
  rw [byScan_of hsc hb hel]
  simp only [↓reduceIte]
  unfold setAddByScan
  refine wpAny_bind (wpAny_bind (wpAny_rule (wpAny_bind (wpAny_setScan_of hkey ho hd hf hel ?_))))
  cases hfi : List.findIdx? (fun e => (PySem.strKind P w).is x e.2) es.toList with
  | some j =>
    dsimp only
    obtain ⟨hj, pj, _⟩ := List.findIdx?_eq_some_iff_getElem.mp hfi
    have hx : x ∈ xs := (hm x).2 ((gt_mem g x).2 ⟨es.toList[j], List.getElem_mem hj, pj⟩)
    refine wpAny_pure (wpAny_pure (hQ _ s.heap (Heap.SameBut.refl a s.heap) (R0.alike (fun y => ?_) (by simp))))
    rw [List.mem_append, List.mem_singleton]
    exact ⟨fun z => z.elim id fun e => e ▸ hx, .inl⟩
  | none =>
    dsimp only
    have hnk : x ∉ es.toList.map kt := fun z => by
      obtain ⟨e, he, q⟩ := (gt_mem g x).1 z
      have c := List.findIdx?_eq_none_iff.mp hfi e he
      rw [q] at c
      cases c
    have hgw : ∀ (b : Bool) {s1 : Shared} {Z : Unit → Shared → Prop}, Z () s1 → wpAny (model P w) A (match b with | true => rule "set.scan.the-table-gave-way" | false => pure ()) Z E s1 := fun b s1 Z q => by
      cases b
      · exact wpAny_pure q
      · exact wpAny_rule q
    have pm := layNew_perm t es ((PySem.strKind P w).hash x) (.str x tk)
    have hf1 := layNew_fits t es ((PySem.strKind P w).hash x) (.str x tk)
    have hr1 := layNew_ris t es ((PySem.strKind P w).hash x) (.str x tk) hr
    have hl1 := layNew_led t es ((PySem.strKind P w).hash x) (.str x tk)
    generalize layNew t es ((PySem.strKind P w).hash x) (.str x tk) = Z at pm hf1 hr1 hl1 ⊢
    obtain ⟨es1, t1, dm, gave⟩ := Z
    dsimp only at pm hf1 hr1 hl1 ⊢
    rw [Array.toList_push] at pm
    have pc : es1.toList.Perm (((PySem.strKind P w).hash x, Value.str x tk) :: es.toList) := pm.trans (List.perm_append_singleton _ _)
    have pk : (es1.toList.map kt).Perm (x :: es.toList.map kt) := pc.map kt
    have g1 : ∀ e ∈ es1.toList, Gt P w e := fun e he => by
      rcases List.mem_cons.mp (pc.mem_iff.mp he) with z | z
      · exact ⟨x, tk, by rw [z], by rw [z]⟩
      · exact g e z
    have n1 : (es1.toList.map kt).Nodup := pk.nodup_iff.mpr (List.nodup_cons.mpr ⟨hnk, nd⟩)
    have m1 : ∀ y, y ∈ xs ++ [x] ↔ y ∈ es1.toList.map kt := fun y => by
      rw [pk.mem_iff, List.mem_cons, List.mem_append, List.mem_singleton, hm y]
      exact Or.comm
    have hsz : es1.size = es.size + 1 := by rw [← Array.length_toList, pc.length_eq, List.length_cons, Array.length_toList]
    have hy : es1.size ≤ (xs ++ [x]).length := by rw [hsz, List.length_append]; exact Nat.succ_le_succ hn
    have hb1 : es1.size < scanBound := by rw [hsz]; omega
    have hled : w.params.followText "set-order" = true ∨ t1.led = true := hl.imp id fun z => by rw [hl1]; exact z
    refine wpAny_bind (hgw _ ?_)
    split
    · refine wpAny_bind ?_
      rw [hashByValue_scannable 8 hsc]
      refine wpAny_pure (put_tail ?_ ho hex hd g1 n1 m1 hb1 ?_ hy ?_ ?_ ?_)
      · intro b s1 Z q
        cases b <;> first | exact wpAny_pure q | exact wpAny_rule q
      · first | (split <;> first | exact hf1 | exact SetTable.fits_plain_off hf1) | exact hf1
      · first | (split <;> exact hr1) | exact hr1
      · first | (split <;> exact hled) | exact hled
      · intro h' sb r
        exact wpAny_pure (hQ _ h' sb r)
    · refine wpAny_bind (wpAny_pure ?_)
      simp only [↓reduceIte]
      refine put_tail ?_ ho hex hd g1 n1 m1 hb1 hf1 hy hr1 hled ?_
      · intro b s1 Z q
        cases b <;> first | exact wpAny_pure q | exact wpAny_rule q
      · intro h' sb r
        exact wpAny_pure (hQ _ h' sb r)
end
end TX
namespace TX
open PySem PySem.Spec PyProof.Rows L2
section
variable {P : Program} {w : World} {A : Around} {E : Value → Shared → Prop} {s : Shared}
/-- the loop that puts all items of a list in -/
theorem fill_loop {I : Addr} {fp wr : List Addr} {G : Array GenState → Array GenState → Prop} {n : Nat} {Pv : Nat → Value → Prop} {St : Nat → Shared → Prop} {R : Result → Shared → Prop}
    (W : WalksS P w A.in1 I fp wr G n Pv St) (S : Addr) (hSf : S ∉ fp) (xs : List PySem.Str) (hn : n = xs.length) (few : xs.length + 1 < scanBound) (hval : ∀ i v, Pv i v → ∃ x t, xs[i]? = some x ∧ v = .str x t) :
    ∀ (k i : Nat) (s : Shared), n - i = k → i ≤ n → St i s → SX P w s.heap S (xs.take i) → (∀ s', Moved (S :: wr) G s s' → SX P w s'.heap S xs → R (.ok (.ret .none)) s') →
      codeAny (model P w) A (.builtin "set.update.loop" ⟨[.ref S, .ref I], []⟩) R s := by
  have hSw : S ∉ wr := fun h => hSf (W.sub _ h)
  have more : ∀ b ∈ wr, b ∈ S :: wr := fun b hb => List.mem_cons_of_mem _ hb
  intro k
  induction k with
  | zero =>
    intro i s hk hi hst hS hR
    have e : xs.take i = xs := List.take_of_length_le (by omega)
    rw [e] at hS
    have hin : i = n := by omega
    subst hin
    refine codeAny_builtin F.entry_set_update_loop ?_; rw [Around.under_plainId F.plain_set_update_loop _]; show wpAny _ A.in1 (pyNext (.ref I) >>= _) _ _ s
    refine wpAny_bind (W.done s _ _ hst fun s' hm => ?_)
    exact wpAny_pure (hR s' (hm.mono more) (hS.keep fun o e => hm.heap S o hSw e))
  | succ k ih =>
    intro i s hk hi hst hS hR
    have hlt : i < n := by omega
    refine codeAny_builtin F.entry_set_update_loop ?_; rw [Around.under_plainId F.plain_set_update_loop _]; show wpAny _ A.in1 (pyNext (.ref I) >>= _) _ _ s
    refine wpAny_bind (W.item i s _ _ hlt hst fun v s' hP hst' hm => ?_)
    obtain ⟨x, t, hx, rfl⟩ := hval i v hP
    have hS' : SX P w s'.heap S (xs.take i) := hS.keep fun o e => hm.heap S o hSw e
    show wpAny _ A.in1 (holding [Value.str x t] (setAdd S (.str x t)) >>= _) _ _ s'
    unfold setAdd
    refine wpAny_bind (wpAny_holding (wpAny_holding (wpAny_bind ((PySem.strKind P w).pyHash (k := x) (strKind_is _ _ _ _) ?_))))
    refine add_hashed (s := { s' with toks := s'.toks + 1 }) hS' (by rw [List.length_take]; omega) fun b h' hsb hS2 => ?_
    have hS3 : SX P w h' S (xs.take (i + 1)) := by
      rw [List.take_add_one, hx]
      exact hS2
    refine wpAny_pure ⟨plainId_quiet F.plain_set_update_loop _, ih (i + 1) _ (by omega) hlt (W.frame _ s' _ _ hst' (Nat.le_succ _) fun b hb o e => ?_) hS3 fun s2 hm2 hS4 => ?_⟩
    · exact (hsb.2 b fun h : b = S => hSf (by rw [← h]; exact hb)).trans e
    · refine hR s2 (Moved.trans W.gtrans ((hm.mono more).then_heap (Nat.le_succ _) fun b o hb e => ?_) hm2) hS4
      exact (hsb.2 b fun h : b = S => hb (by rw [h]; exact List.mem_cons_self)).trans e
def S0 (w : World) : Obj := { cls := .type "set", dict := none, data := .set #[] 0 (.fresh 0 0 (!w.params.followText "set-order")) }
/-- set(xs), xs a list of texts -/
theorem set_of {l : Addr} {items : Array Value} (xs : List PySem.Str) {Q : Value → Shared → Prop} (hh : A.handled = none) (hl : s.heap.IsList l items) (hit : StrsAre items.toList xs) (few : xs.length + 1 < scanBound)
    (h : ∀ (h' : Heap) (tk : Nat), SX P w h' s.heap.objs.size xs → (∀ b o, s.heap.get? b = some o → h'.get? b = some o) → Q (.ref s.heap.objs.size) { s with heap := h', toks := tk }) :
    wpAny (model P w) A (call (.type "set") [.ref l]) Q E s := by
  have hisz : items.size = xs.length := by rw [← StrsAre.len_eq hit, Array.length_toList]
  obtain ⟨c, tl, hmro⟩ := F.called_set.mro
  have hmade := F.called_set.made; have hsub := F.called_set.sub
  refine wpAny_call (codeAny_of_tree ?_); show wpAny _ _ (callAny (.type "set") _) _ _ _
  refine wpAny_pure ⟨Code.quiet_builtin _ (by decide +kernel), codeAny_builtin F.entry_type_call ?_⟩; rw [Around.under_plain (weight_type_call_type "set" [.ref l] []) rfl]
  have h1 := F.called_set.notType; have h2 := F.called_set.canCreate; have hct := F.typeCall_set_1 (.ref l)
  repeat (any_goals (first | assumption | wp_step))
  refine codeAny_mono (code_set_led1 (.ref l) (E := E) (Q₁ := fun obj z => obj = .ref s.heap.objs.size ∧ z = { s with heap := s.heap.push (S0 w) }) ⟨rfl, rfl⟩) fun r z hr => ?_
  cases r with
  | error e => exact hr
  | ok fl =>
    cases fl with
    | ret obj =>
      obtain ⟨rfl, rfl⟩ := hr
      have hS : (s.heap.push (S0 w)).get? s.heap.objs.size = some (S0 w) := Heap.get?_push_size _ rfl
      have hT : Shared.TypeIs { s with heap := s.heap.push (S0 w) } (.ref s.heap.objs.size) "set" := ⟨_, hS, rfl⟩
      have hli := F.called_set.init.lookup; have hbi := F.called_set.init.bind (.ref s.heap.objs.size)
      repeat (any_goals (first | assumption | wp_step))
      refine codeAny_mono (codeAny_call_builtin (R := wants (fun r z => r = .none ∧ ∃ h' tk, z = { s with heap := h', toks := tk } ∧ SX P w h' s.heap.objs.size xs ∧ (∀ b o, s.heap.get? b = some o → h'.get? b = some o)) E)
        F.called_set.init.plain F.entry_set_init (check_set_init_1 hT ?_)) fun r2 z hr2 => ?_
      · obtain ⟨ol, hol, hcl, nl, hdl⟩ := hl
        obtain ⟨ocls, odict, odata, oslots⟩ := ol
        simp only at hcl hdl
        subst hcl; subst hdl
        have hol' : (s.heap.push (S0 w)).get? l = some { cls := .type "list", dict := odict, data := .seq items nl, slots := oslots } := Heap.get?_push_of_some _ hol
        have hsls := F.sub_list_set; have hslf := F.sub_list_frozenset
        have hne : (Value.type "list" == Value.type "dict") = false := by decide
        have hl1 : (s.heap.push (S0 w)).IsList l items := ⟨_, hol', rfl, nl, rfl⟩
        unfold Builtin.«set.__init__» noKeywords Builtin.Frozenset.updateFrom
        generalize hPI : pyIter = PI
        wp_walk
        subst hPI
        refine wpAny_pyIter_list hl1 (wpAny_bind (wpAny_runValue ?_))
        have hlS : l < s.heap.objs.size := Heap.lt_size hol
        have hh3 : A.in1.in1.in1.handled = none := by simp [hh]
        have hsz : (s.heap.push (S0 w)).objs.size = s.heap.objs.size + 1 := Heap.size_push ..
        have hneI : l ≠ (s.heap.push (S0 w)).objs.size := hsz ▸ Nat.ne_of_lt (Nat.lt_succ_of_lt hlS)
        have hSf : s.heap.objs.size ∉ [(s.heap.push (S0 w)).objs.size, l] := by
          rw [hsz]; simp only [List.mem_cons, List.mem_singleton, List.not_mem_nil, or_false, not_or]; exact ⟨Nat.ne_of_lt (Nat.lt_succ_self _), Nat.ne_of_gt hlS⟩
        have hval : ∀ (i : Nat) (v : Value), items[i]? = some v → ∃ x t, xs[i]? = some x ∧ v = .str x t := fun i v hv => by
          obtain ⟨t, e⟩ := SS.strs_at hit i v (by rw [Array.getElem?_toList]; exact hv)
          have hi : i < xs.length := by rw [← hisz]; exact (Array.getElem?_eq_some_iff.mp hv).1
          exact ⟨xs.getD i Str.empty, t, by rw [List.getD_eq_getElem?_getD, List.getElem?_eq_getElem hi]; rfl, e⟩
        refine fill_loop ((Walks.list hh3 _ l hneI items).toS) s.heap.objs.size hSf xs hisz few hval (items.size - 0) 0 _ (by omega) (Nat.zero_le _) ⟨⟨_, Heap.get?_push_size _ rfl, rfl, rfl⟩, (hl1.push _)⟩ ?hS0 ?hR
        case hS0 => exact SX.fresh (Heap.get?_push_of_some _ hS)
        case hR =>
          intro s' hm hS'
          obtain ⟨h', g2, d', tk', os'⟩ := s'
          have eg : g2 = s.gens := hm.gens
          have ed : d' = s.drawn := hm.drawn
          have eo : os' = s.os := hm.os
          subst eg; subst ed; subst eo
          show wpAny _ _ _ _ _ _
          refine wpAny_pure ?_
          show wpAny _ _ (ret Value.none) _ _ _
          refine wpAny_pure ⟨rfl, h', tk', rfl, hS', fun b o e => ?_⟩
          have hlt := Heap.lt_size e
          have n1 : b ≠ s.heap.objs.size := Nat.ne_of_lt hlt
          have n2 : b ≠ (s.heap.push (S0 w)).objs.size := hsz ▸ Nat.ne_of_lt (Nat.lt_succ_of_lt hlt)
          exact hm.heap b o (by simp only [List.mem_cons, List.mem_singleton, List.not_mem_nil, or_false, not_or]; exact ⟨n1, n2⟩) (Heap.get?_push_of_some _ (Heap.get?_push_of_some _ e))
      · cases r2 with
        | error e => exact hr2
        | ok fl2 =>
          cases fl2 with
          | ret r =>
            obtain ⟨rfl, h', tk, rfl, hS', hk⟩ := hr2
            repeat (any_goals (first | assumption | wp_step))
            exact h _ _ hS' hk
          | _ => exact hr2.elim
    | _ => exact hr.elim
/-- what is collected, sorted -/
theorem sorted_of {a : Addr} {xs : List PySem.Str} {Q : Value → Shared → Prop} (R : SX P w s.heap a xs) (hh : A.handled = none) (h64 : xs.length < 64)
    (hQ : ∀ s' p (out : Array Value) (c : Nat) (ys : List PySem.Str), (∀ b o, s.heap.get? b = some o → s'.heap.get? b = some o) → s'.gens = s.gens → s'.os = s.os → s.heap.objs.size ≤ p →
      s'.heap.get? p = some (seqObj "list" out c) → StrsAre out.toList ys → sortedS ys = true → ys.Nodup → (∀ x, x ∈ ys ↔ x ∈ xs) → ys.length ≤ xs.length → Q (.ref p) s') : wpAny (model P w) A (call (.builtin "sorted") [.ref a]) Q E s := by
  obtain ⟨o, es, ep, t, ⟨ho, hex, hd⟩, ⟨g, nd, hm⟩, ⟨hb, hf, hn⟩, hr, hl⟩ := R
  refine Calls.call_function_entry kind_sorted plain_sorted entry_sorted (args_sorted1 _) ?_; unfold Builtin.«sorted»; refine wpAny_bind (m := checkCount "sorted" 1 1 _) (wpAny_pure ?_)
  refine wpAny_bind (collect_set (A := A.in1) hh ⟨o, ho, hex.1, hd⟩ hf hb hr hl fun s1 vs k1 hz g1 o1 pm => ?_)
  have hvl : vs.length = es.size := by rw [pm.length_eq, List.length_map, Array.length_toList]
  have hI : StrsAre vs (vs.map strOf) := strsAre_map vs fun v hv => by
    obtain ⟨e, he, q⟩ := List.mem_map.mp (pm.mem_iff.mp hv)
    obtain ⟨x, tk, h1, _⟩ := g e he
    exact ⟨x, tk, by rw [← q]; exact h1⟩
  have pk : (vs.map strOf).Perm (es.toList.map kt) := by
    have q := pm.map strOf
    rw [List.map_map] at q
    exact q
  refine wpAny_bind (wpAny_newList ?_ (by rw [hvl, sizeLine_eq]; omega))
  have hoL : (s1.heap.push (seqObj "list" vs.toArray 0)).get? s1.heap.objs.size = some (seqObj "list" vs.toArray 0) := Heap.get?_push_size _ rfl
  refine wpAny_bind (wpAny_holding (wpAny_call_entry slot_list_sort ⟨_, hoL, rfl⟩ entry_list_sort (list_sort_treeK strKind_oneLt hoL hI.keysOf (fun v1 v2 rest e => keyKind_strs (by rw [← e]; exact hI)) (by rw [hvl]; omega) fun st hp hs => ⟨_, rfl, ?_⟩) (args_list_sort _)))
  obtain ⟨ys, a1, a2, a3⟩ := sorted_out_str hI hp hs
  obtain ⟨c, hc⟩ := sortedHeap_at (vs := vs) (out := (arrOf st).map (·.2)) hoL
  have pn : ys.Perm (es.toList.map kt) := a2.trans pk
  refine wpAny_pure ⟨_, rfl, hQ _ s1.heap.objs.size _ c ys (fun b u e => ?_) g1 o1 hz hc a1 a3 (pn.nodup_iff.mpr nd) (fun x => by rw [pn.mem_iff, ← hm x]) ?_⟩
  · have q := k1 b u e
    have hlt := Heap.lt_size q
    exact (sortedHeap_old (Nat.ne_of_lt hlt) (by rw [size_push']; exact Nat.lt_succ_of_lt hlt)).trans (Heap.get?_push_of_some _ q)
  · rw [pn.length_eq, List.length_map, Array.length_toList]; exact hn
end
end TX
/-! sorted(set(texts)), and that it is one list only. -/
namespace TX
open PySem PySem.Spec PyProof.Rows L2
theorem rising_pair : ∀ (l : List PySem.Str) (p : PySem.Str), risingS p l = true → (p :: l).Pairwise fun a b => a.cps.toList ≤ b.cps.toList
  | [], p, _ => List.pairwise_singleton _ _
  | x :: r, p, h => by
    have h' : (!ltCps x.cps.toList p.cps.toList && risingS x r) = true := h
    rw [Bool.and_eq_true, ltCps_eq] at h'
    obtain ⟨h1, h2⟩ := h'
    have q := rising_pair r x h2
    have px : p.cps.toList ≤ x.cps.toList := by
      intro z
      rw [show decide (x.cps.toList < p.cps.toList) = true from decide_eq_true z] at h1
      cases h1
    refine List.pairwise_cons.mpr ⟨fun y hy => ?_, q⟩
    rcases List.mem_cons.mp hy with e | e
    · exact e ▸ px
    · exact List.le_trans px ((List.pairwise_cons.mp q).1 y e)
theorem sorted_pair {l : List PySem.Str} (h : sortedS l = true) : l.Pairwise fun a b => a.cps.toList ≤ b.cps.toList := by
  cases l with
  | nil => exact List.Pairwise.nil
  | cons x r => exact rising_pair r x h
theorem str_ext {a b : PySem.Str} (h : a.cps.toList = b.cps.toList) : a = b := by
  cases a; cases b
  simpa using h
/-- an ascending list without doubles -/
def Asc (l : List PySem.Str) : Prop := sortedS l = true ∧ l.Nodup
theorem Asc.one {l m : List PySem.Str} (a : Asc l) (b : Asc m) (h : ∀ x, x ∈ l ↔ x ∈ m) : l = m :=
  List.Perm.eq_of_pairwise (le := fun a b : PySem.Str => a.cps.toList ≤ b.cps.toList) (fun x y _ _ p q => str_ext (List.le_antisymm p q)) (sorted_pair a.1) (sorted_pair b.1) ((List.perm_ext_iff_of_nodup a.2 b.2).mpr h)
theorem Asc.perm {l m : List PySem.Str} (a : Asc l) (b : sortedS m = true) (h : m.Perm l) : m = l := Asc.one ⟨b, h.nodup_iff.mpr a.2⟩ a fun x => h.mem_iff
theorem sorted_perm {l m : List PySem.Str} (a : sortedS l = true) (b : sortedS m = true) (h : l.Perm m) : l = m :=
  List.Perm.eq_of_pairwise (le := fun a b : PySem.Str => a.cps.toList ≤ b.cps.toList) (fun x y _ _ p q => str_ext (List.le_antisymm p q)) (sorted_pair a) (sorted_pair b) h
/-- the set, for the abstract heap -/
def SXO (P : Program) (w : World) (a : Addr) (xs : List PySem.Str) : HO := .ext fun h => SX P w h a xs
theorem sxo_new {P : Program} {w : World} {H : Hp} {h : Heap} {a : Addr} {xs : List PySem.Str} (R : SX P w h a xs) : ObjOk P w H h a (SXO P w a xs) := by
  have ⟨o, _, _, _, ⟨ho, _⟩, _⟩ := R
  exact ⟨R, ⟨o, ho⟩, fun h1 h2 p k => SX.keep p k⟩
section
variable {X : Cx}
theorem cr_setX (hc : X.calm = true) : CallR X (.type "set") (fun vs H Q => ∃ (l : Addr) (xs : List PySem.Str), vs = [.ref l] ∧ SqL X.K H l (xs.map V.str) ∧ xs.length < 64 ∧ ∀ a, H a = none → Q (.ref a) (upd H a (SXO X.prog X.w a xs))) := by
  intro pins s σ H vs us Q I r h
  obtain ⟨l, xs, rfl, hl, few, q⟩ := h
  rw [Vals.ref1 r]
  obtain ⟨its, rv, pl, hz⟩ := I.list hl
  have hn : H s.heap.objs.size = none := I.hok.fresh (Nat.le_refl _)
  refine set_of (P := X.prog) (w := X.w) xs (I.ok.hd hc) pl.isList (by simpa using rv.strs) (by unfold scanBound; omega) fun h' tk R k => ?_
  exact ⟨.ref s.heap.objs.size, upd H s.heap.objs.size (SXO X.prog X.w s.heap.objs.size xs), I.laid (t' := tk) k (Nat.le_refl _) (sxo_new R), rfl, q _ hn⟩
theorem cr_sortedX (hc : X.calm = true) : CallR X (.builtin "sorted") (fun vs H Q => ∃ (a : Addr) (xs : List PySem.Str), vs = [.ref a] ∧ H a = some (SXO X.prog X.w a xs) ∧ xs.length < 64 ∧
    ∀ ys p, Asc ys → (∀ x, x ∈ ys ↔ x ∈ xs) → ys.length ≤ xs.length → H p = none → Q (.ref p) (upd H p (.lst (ys.map V.str)))) := by
  intro pins s σ H vs us Q I r h
  obtain ⟨a, xs, rfl, ha, few, q⟩ := h
  have R0 : SX X.prog X.w s.heap a xs := (I.hok a _ ha).1
  rw [Vals.ref1 r]
  refine sorted_of R0 (I.ok.hd hc) few fun s' p out c ys k g o hp hg hout h1 h2 h3 h4 => ?_
  have hlen : (ys.map V.str).length ≤ sizeLine := by rw [List.length_map, sizeLine_eq]; omega
  have hn : H p = none := I.hok.fresh hp
  have J : Inv X pins σ (upd H p (.lst (ys.map V.str))) { s with heap := s'.heap, gens := s'.gens, drawn := s'.drawn, toks := s'.toks } :=
    I.call (ch := []) (Un.laid k hp hn) (I.hok.laid k hp ⟨hlen, out.toList, c, vals_of_strs hout, hg⟩) (by rw [g]; exact I.bare) (fun _ z => nomatch z)
  have e : s' = { s with heap := s'.heap, gens := s'.gens, drawn := s'.drawn, toks := s'.toks } := by
    cases s'; cases s; cases o; rfl
  rw [e]
  exact ⟨.ref p, _, J, rfl, q ys p ⟨h1, h2⟩ h3 h4 hn⟩
end
end TX
/-! list(d.items()), d a dict of texts. -/
namespace TX
open PySem PySem.Spec PyProof.Rows L2
theorem paired_at {α β : Type} {F : α → β → Prop} : ∀ {l : List α} {m : List β} {j : Nat} {x : α} {y : β}, Paired F l m → l[j]? = some x → m[j]? = some y → F x y
  | _, _, _, _, _, .nil, h, _ => by simp at h
  | _, _, 0, x, y, .cons a b, h1, h2 => by
    simp at h1 h2
    exact h1 ▸ h2 ▸ a
  | _, _, j + 1, x, y, .cons a b, h1, h2 => paired_at (j := j) b (by simpa using h1) (by simpa using h2)
section
variable {X : Cx}
theorem mt_items : MtR X "dict.items" (fun x vs H Q => ∃ (a : Addr) (kvs : List (L2.Key × V)), x = .ref a ∧ vs = [] ∧ H a = some (.dK kvs) ∧ ∀ p, H p = none → Q (.ref p) (upd H p (L2.DX.itemsO p a))) := by
  intro pins s σ H x xs v us Q I rx rxs h
  obtain ⟨a, kvs, rfl, rfl, ha, q⟩ := h
  cases rx; cases rxs
  obtain ⟨z, hd, vs, rel, o, es, ep, ho, hx, hdat, _⟩ := dk_of I.hok ha
  refine DT.callItems (es := es) (ep := ep) hd ⟨o, ho, hx, hdat⟩ ?_
  exact ⟨.ref s.heap.objs.size, _, I.laid (t' := s.toks) (fun b u e => Heap.get?_push_of_some _ e) (Nat.le_refl _) (L2.DX.itemsO_ok (Heap.get?_push_size _ rfl)), rfl, q _ (I.hok.fresh (Nat.le_refl _))⟩
theorem cr_listItems (hc : X.calm = true) : CallR X (.type "list") (fun vs H Q => ∃ (p a : Addr) (kvs : List (L2.Key × V)), vs = [.ref p] ∧ H p = some (L2.DX.itemsO p a) ∧ H a = some (.dK kvs) ∧
    ∀ H' l as, (∀ b o, H b = some o → H' b = some o) → H l = none → H' l = some (.lst (as.map V.ref)) → Paired (fun b kv => H b = none ∧ H' b = some (.tup [kV kv.1, kv.2])) as kvs → Q (.ref l) H') := by
  intro pins s σ H vs us Q I r h
  obtain ⟨p, a, kvs, rfl, hp, ha, q⟩ := h
  rw [Vals.ref1 r]
  have view : s.heap.IsItemsView p a := (show ObjOk X.prog X.w H s.heap p (L2.DX.itemsO p a) from I.hok p _ hp).1
  obtain ⟨z, hd, vs, rel, dd⟩ := dk_of I.hok ha
  obtain ⟨ep, hat⟩ := dd.dictAt
  have lv : kvs.length = vs.length := Paired.length rel
  have hS : H s.heap.objs.size = none := I.hok.fresh (Nat.le_refl _)
  refine PySem.W.kdx_call (knd := mixKind X.prog X.w) (kvs := vs) (ep := ep) (I.ok.hd hc) view hat (by omega) fun h' tk acc c as hk hl hn hG hacc => ?_
  have nd : as.Nodup := List.Pairwise.imp (fun h => Nat.ne_of_lt h) hG.rise
  have vr : ∀ l : List Addr, Vals (l.map V.ref) (l.map Value.ref) := fun l => by
    induction l with
    | nil => exact .nil
    | cons x l ih => exact .cons rfl ih
  have I1 : Inv X pins σ (upd H s.heap.objs.size (.lst (as.map V.ref))) { s with heap := h', toks := tk } := I.laid (t' := tk) hk (Nat.le_refl _) ⟨by rw [List.length_map]; omega, acc.toList, c, by rw [hacc]; exact vr as, by rw [Array.toArray_toList]; exact hl⟩
  have ent : ∀ (j : Nat) (b : Addr), as[j]? = some b → ∃ kv, kvs[j]? = some kv ∧ ∀ H2, ObjOk X.prog X.w H2 h' b (.tup [kV kv.1, kv.2]) := fun j b hj => by
    obtain ⟨key, k, x, e1, e2, e3⟩ := hG.pairs j b hj
    have hj2 : j < kvs.length := by rw [lv]; exact (List.getElem?_eq_some_iff.mp e1).1
    have e4 : kvs[j]? = some kvs[j] := List.getElem?_eq_getElem hj2
    obtain ⟨r1, r2⟩ := paired_at rel e4 e1
    have r1' : kvs[j].1 = k := r1
    refine ⟨_, e4, fun H2 => ⟨by show 2 ≤ sizeLine; rw [sizeLine_eq]; omega, [key, x], .cons ?_ (.cons r2 .nil), _, e3, rfl, _, rfl⟩⟩
    rw [r1']
    exact keyIs_rel e2
  have low : ∀ b ∈ as, s.heap.objs.size ≤ b ∧ upd H s.heap.objs.size (.lst (as.map V.ref)) b = none := fun b hb => by
    have g := hG.above b hb
    exact ⟨Nat.le_of_lt g, by rw [upd_ne (Nat.ne_of_gt g)]; exact I.hok.fresh (Nat.le_of_lt g)⟩
  obtain ⟨H2, I2, k2, t2⟩ := L2.DX.takeT (P := fun b xs => ∃ kv : L2.Key × V, (∀ j : Nat, as[j]? = some b → kvs[j]? = some kv) ∧ xs = [kV kv.1, kv.2]) I as _ I1 nd fun b hb => by
    obtain ⟨j, hj⟩ := List.mem_iff_getElem?.mp hb
    obtain ⟨kv, e, ok⟩ := ent j b hj
    refine ⟨(low b hb).1, (low b hb).2, _, ⟨kv, fun i hi => ?_, rfl⟩, ok⟩
    obtain ⟨i1, q1⟩ := List.getElem?_eq_some_iff.mp hi
    obtain ⟨j1, q2⟩ := List.getElem?_eq_some_iff.mp hj
    have : i = j := (List.getElem_inj nd).mp (q1.trans q2.symm)
    rw [this]; exact e
  have nS : ∀ b o, H b = some o → b ≠ s.heap.objs.size := fun b o e n => by rw [n, hS] at e; cases e
  refine ⟨.ref s.heap.objs.size, H2, I2, rfl, q H2 _ as (fun b o e => k2 b o (by rw [upd_ne (nS b o e)]; exact e)) hS (k2 _ _ upd_same) ?_⟩
  have all : ∀ (j : Nat) (b : Addr) (kv : L2.Key × V), as[j]? = some b → kvs[j]? = some kv → H b = none ∧ H2 b = some (.tup [kV kv.1, kv.2]) := fun j b kv h1 h2 => by
    have hb : b ∈ as := List.mem_of_getElem? h1
    obtain ⟨xs, ⟨kv', e1, e2⟩, e3⟩ := t2 b hb
    have e4 := e1 j h1
    rw [h2] at e4
    cases e4
    exact ⟨I.hok.fresh (low b hb).1, by rw [e3, e2]⟩
  have build : ∀ (l : List Addr) (m : List (L2.Key × V)), l.length = m.length → (∀ (j : Nat) (b : Addr) (kv : L2.Key × V), l[j]? = some b → m[j]? = some kv → H b = none ∧ H2 b = some (.tup [kV kv.1, kv.2])) → Paired (fun b kv => H b = none ∧ H2 b = some (.tup [kV kv.1, kv.2])) l m := fun l => by
    induction l with
    | nil =>
      intro m hm _
      cases m with
      | nil => exact .nil
      | cons y m => simp at hm
    | cons x l ih =>
      intro m hm ha
      cases m with
      | nil => simp at hm
      | cons y m => exact .cons (ha 0 x y rfl rfl) (ih m (by simpa using hm) fun j b kv h1 h2 => ha (j + 1) b kv (by simpa using h1) (by simpa using h2))
  exact build as kvs (by omega) all
end
end TX
/-! == of nested lists, tuples, dicts; two values alike. -/
namespace V9
open PySem PySem.Spec PyProof.Rows L2
def EqT (K : PySem.W.Frag) (H : Hp) (F : V → V → Prop) (x y : V) : Prop := ∃ (a b : Addr) (xs ys : List V), x = .ref a ∧ y = .ref b ∧ SqT K H a xs ∧ SqT K H b ys ∧ Paired F xs ys
def EqW (K : PySem.W.Frag) (H : Hp) : Nat → V → V → Prop
  | 0 => fun _ _ => False
  | n + 1 => fun x y => (x = y ∧ flatB x = true) ∨ (∃ a, x = .ref a ∧ y = .ref a) ∨ EqR K H (EqW K H n) x y ∨ EqT K H (EqW K H n) x y
section
variable {X : Cx} {pins : List (Addr × Obj)} {σ : L2.St} {H : Hp} {s : Shared}
theorem eqT_run (I : Inv X pins σ H s) {A : Around} {F : V → V → Prop} (hu : A.units < cLine) (ih : ∀ x y v u, F x y → RelV x v → RelV y u → SeqAt.EqP X.prog X.w A.in1 s v u true) {x y : V} {v u : Value} (h : EqT X.K H F x y) (rx : RelV x v) (ry : RelV y u)
    (E Q : Value → Shared → Prop) (q : Q (.bool true) s) : wpAny (model X.prog X.w) A (richCompare .Eq v u) Q E s := by
  obtain ⟨a, b, xs, ys, rfl, rfl, ha, hb, hp⟩ := h
  cases (show v = Value.ref a from rx); cases (show u = Value.ref b from ry)
  obtain ⟨us, r1, p1, _⟩ := I.tuple ha
  obtain ⟨ws, r2, p2, _⟩ := I.tuple hb
  have hsz : us.length = ws.length := by rw [← r1.length, ← r2.length]; exact Paired.length hp
  refine SeqAt.rcIn_tuples (e := fun _ => true) p1 p2 hu (fun j h1 h2 => ?_) ?_
  · have k := items_run ih hp r1 r2 j (by simpa using h1) (by simpa using h2)
    have k2 : SeqAt.EqIn X.prog X.w A.in1 s us[j] ws[j] true := k
    simpa using k2
  · have e : ((List.range (min us.toArray.size ws.toArray.size)).all (fun _ => true) && us.toArray.size == ws.toArray.size) = true := by
      rw [List.size_toArray, List.size_toArray, hsz]
      simp
    rw [e]
    exact q
theorem eqRT_run (I : Inv X pins σ H s) {A : Around} {F : V → V → Prop} (hu : A.units < cLine) (ih : ∀ x y v u, F x y → RelV x v → RelV y u → SeqAt.EqP X.prog X.w A.in1 s v u true) {x y : V} {v u : Value} (h : EqR X.K H F x y ∨ EqT X.K H F x y) (rx : RelV x v) (ry : RelV y u)
    (E Q : Value → Shared → Prop) (q : Q (.bool true) s) : wpAny (model X.prog X.w) A (richCompare .Eq v u) Q E s :=
  h.elim (fun h => eqR_run I hu ih h rx ry E Q q) fun h => eqT_run I hu ih h rx ry E Q q
theorem eqW_run (I : Inv X pins σ H s) : ∀ (n : Nat) (A : Around), A.units + n < cLine → ∀ (x y : V) (v u : Value), EqW X.K H n x y → RelV x v → RelV y u → SeqAt.EqP X.prog X.w A s v u true
  | 0, _, _, _, _, _, _, h, _, _ => (show False from h).elim
  | n + 1, A, hu, x, y, v, u, h, rx, ry => by
    rcases h with ⟨rfl, f⟩ | ⟨a, rfl, rfl⟩ | h
    · exact (eqAt_same rx ry f).eqP
    · cases (show v = Value.ref a from rx); cases (show u = Value.ref a from ry)
      exact (SeqAt.EqAt.same _).eqP
    · have step := eqRT_run I (A := A) (by omega) (eqW_run I n A.in1 (by show A.units + 1 + n < cLine; omega)) h rx ry
      obtain ⟨a, b, rfl, rfl⟩ : ∃ a b, x = .ref a ∧ y = .ref b := by
        rcases h with (⟨a, b, _, _, e1, e2, _⟩ | ⟨a, b, _, _, e1, e2, _⟩) | ⟨a, b, _, _, e1, e2, _⟩ <;> exact ⟨a, b, e1, e2⟩
      cases (show v = Value.ref a from rx); cases (show u = Value.ref b from ry)
      by_cases e : a = b
      · subst e
        exact (SeqAt.EqAt.same _).eqP
      · exact SeqAt.eqP_refs e step
theorem op_eqW (hu : X.A.units + 64 < cLine) : OpR X (compareOp .Eq) (fun x y H Q => ∃ n, n ≤ 60 ∧ (EqR X.K H (EqW X.K H n) x y ∨ EqT X.K H (EqW X.K H n) x y) ∧ Q (.bl true) H) := by
  intro pins s σ H x y v u Q I rx ry h
  obtain ⟨n, hn, h, q⟩ := h
  exact eqRT_run I (A := X.A) (by omega) (eqW_run I n X.A.in1 (by show X.A.units + 1 + n < cLine; omega)) h rx ry _ _ ⟨.bl true, H, I, rfl, q⟩
end
theorem EqW.flat {K : PySem.W.Frag} {H : Hp} {n : Nat} {x : V} (h : flatB x = true) : EqW K H (n + 1) x x := .inl ⟨rfl, h⟩
theorem EqW.same {K : PySem.W.Frag} {H : Hp} {n : Nat} {a : Addr} : EqW K H (n + 1) (.ref a) (.ref a) := .inr (.inl ⟨a, rfl, rfl⟩)
abbrev sAlike : Stmt := topS 29
theorem scAlike : FnScope ["found", "due"] ["found", "due"] (defScope sAlike) := ⟨rfl, rfl, rfl, by decide +kernel, rfl, by decide +kernel, by decide +kernel⟩
section
variable {P : Program} {w : World} {K : PySem.W.Frag} {mg : PySem.Str → Option Value} {base : Heap}
def spAlike (K : PySem.W.Frag) : Sp := fun vs H Q _ => ∃ (x y : V) (m n : Nat) (as bs : List Addr) (t : PySem.Str) (c e : Nat), vs = [x, y] ∧ m ≤ 60 ∧ (EqR K H (EqW K H m) x y ∨ EqT K H (EqW K H m) x y) ∧
  Shw H [x] n as [t] c ∧ Shw H [y] n bs [t] e ∧ n ≤ 60 ∧ c ≤ 16000000 ∧ e ≤ 16000000 ∧ Q (.bl true) H
theorem ok_alike {f : Addr} {fd : FuncData} {k : Nat} (F : Fun K "_law_alike" "_law_alike" sAlike f fd) (mR : mg "repr" = none) : Ok0 P w K mg base (k + 1) f fd ["found", "due"] (spAlike K) := by
  refine Ok0.mk_of F scAlike (fun vs H Q E h => ?_) (fun cdv A outer s H vs Q E hgd hr h => ?_)
  · obtain ⟨x, y, m, n, as, bs, t, c, e, rfl, _⟩ := h
    rfl
  · obtain ⟨x, y, m, n, as, bs, t, c, e, rfl, hm, eqs, s1, s2, hn, hc, he, q⟩ := h
    refine ⟨_, pss_one (ps_ret (pe_and (pe_cmpR (op_eqW hr.units) (pv 0) (pv 1) (nomark _)) (pe_one (pe_cmpR op_eq (pe_callB (call_reprV hgd hr.units) (by rfl) mR (by decide +kernel) (pa_cons (pv 0) pa_nil)) (pe_callB (call_reprV hgd hr.units) (by rfl) mR (by decide +kernel) (pa_cons (pv 1) pa_nil)) (nomark _))))), ?_⟩
    refine ⟨_, rfl, _, rfl, m, hm, eqs, true, rfl, _, rfl, x, n, as, t, c, rfl, s1, hn, hc, _, rfl, _, n, bs, t, e, rfl, s2, hn, he, rfl, ?_⟩
    rw [show decide (V.str t = V.str t) = true from decide_eq_true rfl]
    exact q
end
end V9
/-! What stands in the locks. -/
namespace V9
open PySem PySem.Spec PyProof.Rows L2
def NMS : List PySem.Str := ["core", "a", "lib-x", "z9", "tool", "b", "net", "ui", "m1", "q", "old-api", "k"]
def FTS : List PySem.Str := ([("fast" : PySem.Str), "x", "tls"] : List PySem.Str) ++ NMS.map fun x => cutS x none (some 3)
def okT (x : PySem.Str) : Bool := decide (x.length ≤ 100) && x.cps.toList.all (fun k => decide (k < 16 ^ 8)) && (PyData.str x).canLay0
theorem nms_ok : ∀ x ∈ NMS, okT x = true := by decide +kernel
theorem fts_ok : ∀ x ∈ FTS, okT x = true := by decide +kernel
theorem okT_shw {x : PySem.Str} (h : okT x = true) : x.length ≤ 100 ∧ ∀ k ∈ x.cps.toList, k < 16 ^ 8 := by
  unfold okT at h
  simp only [Bool.and_eq_true, decide_eq_true_eq, List.all_eq_true] at h
  exact ⟨h.1.1, h.1.2⟩
theorem okT_lay {x : PySem.Str} (h : okT x = true) : (PyData.str x).canLay0 = true := by
  unfold okT at h
  simp only [Bool.and_eq_true] at h
  exact h.2
theorem nms_nd : NMS.Nodup := by decide +kernel
/-- an entry of a lock -/
structure Et (H : Hp) (v : V) (e p q : Addr) (ns : List Int) (fs : List PySem.Str) : Prop where
  v : v = .ref e
  he : H e = some (.tup [.ref p, .ref q])
  hp : H p = some (.tup (ns.map V.int))
  vs : Vs ns
  hq : H q = some (.tup (fs.map V.str))
  ok : ∀ x ∈ fs, x ∈ FTS
  few : fs.length ≤ 4
  as : TX.Asc fs
def Ent (b : Addr) (H : Hp) (v : V) : Prop := ∃ e p q ns fs, Et H v e p q ns fs ∧ e ≠ b ∧ p ≠ b ∧ q ≠ b
def En (b : Addr) (H : Hp) (v : V) : Prop := v = .non ∨ Ent b H v
variable {b : Addr} {H H' : Hp} {v : V}
theorem Ent.chb (h : Ent b H v) (c : Chb b H H') : Ent b H' v := by
  obtain ⟨e, p, q, ns, fs, t, n1, n2, n3⟩ := h
  exact ⟨e, p, q, ns, fs, ⟨t.v, c _ _ n1 t.he, c _ _ n2 t.hp, t.vs, c _ _ n3 t.hq, t.ok, t.few, t.as⟩, n1, n2, n3⟩
theorem En.chb (h : En b H v) (c : Chb b H H') : En b H' v := h.imp id fun h => h.chb c
theorem Ent.ref (h : Ent b H v) : ∃ e, v = .ref e := let ⟨e, _, _, _, _, t, _⟩ := h; ⟨e, t.v⟩
theorem Ent.nn (h : Ent b H v) : v ≠ .non := by
  obtain ⟨e, rfl⟩ := h.ref
  intro z; cases z
/-- its contents, as data -/
def lv : V → PyData
  | .int i => .int i
  | .str x => .str x
  | _ => .none
def cont (H : Hp) : V → PyData
  | .ref e => match H e with
    | some (.tup [.ref p, .ref q]) => match H p, H q with
      | some (.tup xs), some (.tup ys) => .tuple [.tuple (xs.map lv), .tuple (ys.map lv)]
      | _, _ => .none
    | _ => .none
  | _ => .none
theorem Et.cont {e p q : Addr} {ns : List Int} {fs : List PySem.Str} (t : Et H v e p q ns fs) : V9.cont H v = .tuple [.tuple (ns.map PyData.int), .tuple (fs.map PyData.str)] := by
  rw [t.v]
  show (match H e with | some (.tup [.ref p, .ref q]) => _ | _ => _) = _
  rw [t.he]
  show (match H p, H q with | some (.tup xs), some (.tup ys) => _ | _, _ => _) = _
  rw [t.hp, t.hq]
  show PyData.tuple [.tuple ((ns.map V.int).map lv), .tuple ((fs.map V.str).map lv)] = _
  rw [List.map_map, List.map_map]
  rfl
theorem En.cont (h : En b H v) (c : Chb b H H') : V9.cont H' v = V9.cont H v := by
  rcases h with rfl | h
  · rfl
  · obtain ⟨e, p, q, ns, fs, t, n1, n2, n3⟩ := h
    rw [t.cont, Et.cont (H := H') ⟨t.v, c _ _ n1 t.he, c _ _ n2 t.hp, t.vs, c _ _ n3 t.hq, t.ok, t.few, t.as⟩]
theorem dp_ints {K : PySem.W.Frag} : ∀ ns : List Int, DpAll K H (ns.map V.int) (ns.map PyData.int)
  | [] => .nil
  | n :: ns => .cons (.int n) (dp_ints ns)
theorem dp_strs {K : PySem.W.Frag} : ∀ fs : List PySem.Str, DpAll K H (fs.map V.str) (fs.map PyData.str)
  | [] => .nil
  | x :: fs => .cons (.str x) (dp_strs fs)
theorem En.dp (K : PySem.W.Frag) (h : En b H v) : Dp K H v (V9.cont H v) := by
  rcases h with rfl | h
  · exact .non
  · obtain ⟨e, p, q, ns, fs, t, n1, n2, n3⟩ := h
    rw [t.cont, t.v]
    exact .tup (.inl (.inl t.he)) (.cons (.tup (.inl (.inl t.hp)) (dp_ints ns)) (.cons (.tup (.inl (.inl t.hq)) (dp_strs fs)) .nil))
theorem lay_ints : ∀ ns : List Int, PyData.canLayAll0 (ns.map PyData.int) = true ∧ PyData.depthAll (ns.map PyData.int) = 0
  | [] => ⟨rfl, rfl⟩
  | n :: ns => ⟨(lay_ints ns).1, by
    show max 0 (PyData.depthAll (ns.map PyData.int)) = 0
    rw [(lay_ints ns).2]; rfl⟩
theorem lay_strs : ∀ fs : List PySem.Str, (∀ x ∈ fs, x ∈ FTS) → PyData.canLayAll0 (fs.map PyData.str) = true ∧ PyData.depthAll (fs.map PyData.str) = 0
  | [], _ => ⟨rfl, rfl⟩
  | x :: fs, h => by
    obtain ⟨h1, h2⟩ := lay_strs fs fun y hy => h y (List.mem_cons_of_mem _ hy)
    refine ⟨?_, ?_⟩
    · show ((PyData.str x).canLay0 && PyData.canLayAll0 (fs.map PyData.str)) = true
      rw [okT_lay (fts_ok x (h x List.mem_cons_self)), h1]; rfl
    · show max 0 (PyData.depthAll (fs.map PyData.str)) = 0
      rw [h2]; rfl
theorem En.shaped (h : En b H v) : SeqAt.shaped (V9.cont H v) = true := by
  rcases h with rfl | h
  · show SeqAt.shaped .none = true
    decide
  · obtain ⟨e, p, q, ns, fs, t, n1, n2, n3⟩ := h
    rw [t.cont]
    unfold SeqAt.shaped
    obtain ⟨a1, a2⟩ := lay_ints ns
    obtain ⟨b1, b2⟩ := lay_strs fs t.ok
    have c1 : (PyData.tuple [.tuple (ns.map PyData.int), .tuple (fs.map PyData.str)]).canLay0 = true := by
      show (PyData.canLayAll0 (ns.map PyData.int) && (PyData.canLayAll0 (fs.map PyData.str) && true)) = true
      rw [a1, b1]; rfl
    have c2 : (PyData.tuple [.tuple (ns.map PyData.int), .tuple (fs.map PyData.str)]).depth = 2 := by
      show max (PyData.depthAll (ns.map PyData.int) + 1) (max (PyData.depthAll (fs.map PyData.str) + 1) 0) + 1 = 2
      rw [a2, b2]; rfl
    rw [c1, c2]; rfl
/-- two of them, not the same -/
def ne (H : Hp) (x y : V) : Bool := !PyData.eqv (V9.cont H x) (V9.cont H y)
theorem ne_chb {x y : V} (hx : En b H x) (hy : En b H y) (c : Chb b H H') : ne H' x y = ne H x y := by
  unfold ne
  rw [hx.cont c, hy.cont c]
/-- what they print as -/
theorem shw_ints : ∀ (ns : List Int), (∀ n ∈ ns, 0 ≤ n ∧ n < 1000000) → ∃ ts, Shw H (ns.map V.int) 0 [] ts (70 * ns.length)
  | [], _ => ⟨_, .nil⟩
  | n :: ns, h => by
    obtain ⟨ts, r⟩ := shw_ints ns fun m hm => h m (List.mem_cons_of_mem _ hm)
    have hn := h n List.mem_cons_self
    have e : 70 * (n :: ns).length = 70 + 70 * ns.length := by rw [List.length_cons]; omega
    rw [e]
    exact ⟨_, .int n (by omega) r⟩
theorem shw_strs : ∀ (fs : List PySem.Str), (∀ x ∈ fs, okT x = true) → ∃ ts, Shw H (fs.map V.str) 0 [] ts (1010 * fs.length)
  | [], _ => ⟨_, .nil⟩
  | x :: fs, h => by
    obtain ⟨ts, r⟩ := shw_strs fs fun m hm => h m (List.mem_cons_of_mem _ hm)
    obtain ⟨h1, h2⟩ := okT_shw (h x List.mem_cons_self)
    have e : 1010 * (x :: fs).length = 1010 + 1010 * fs.length := by rw [List.length_cons]; omega
    rw [e]
    exact ⟨_, .str x h1 h2 r⟩
/-- an object within an entry is no row, and no pair of a text and another object -/
def Low2 (H : Hp) (a : Addr) : Prop := ∃ xs, H a = some (.tup xs) ∧ ∀ (n : PySem.Str) (rest : List V) (v : V), v ∈ rest → (v = .non ∨ ∃ z, v = .ref z) → xs ≠ .str n :: rest
theorem Low2.ne {H : Hp} {a r : Addr} {n : PySem.Str} {rest : List V} {v : V} (l : Low2 H a) (hr : H r = some (.tup (.str n :: rest))) (hv : v ∈ rest) (h : v = .non ∨ ∃ z, v = .ref z) : r ≠ a := fun e => by
  obtain ⟨xs, h1, h2⟩ := l
  rw [e, h1] at hr
  exact h2 n rest v hv h (HO.tup.inj (Option.some.inj hr))
theorem Ent.shw (h : Ent b H v) : ∃ as t c, Shw H [v] 2 as [t] c ∧ c ≤ 5000 ∧ b ∉ as ∧ ∀ a ∈ as, Low2 H a := by
  obtain ⟨e, p, q, ns, fs, t, n1, n2, n3⟩ := h
  obtain ⟨ts, r1⟩ := shw_ints (H := H) ns t.vs.2
  obtain ⟨us, r2⟩ := shw_strs (H := H) fs fun x hx => fts_ok x (t.ok x hx)
  have l1 := t.vs.1
  have l2 := t.few
  have pe : e ≠ p := fun z => by
    have y := t.he
    rw [z, t.hp] at y
    obtain ⟨hl, _⟩ := t.vs
    have y2 := congrArg List.length (HO.tup.inj (Option.some.inj y))
    rw [List.length_map, hl] at y2
    simp at y2
  have qe : e ≠ q := fun z => by
    have y := t.he
    rw [z, t.hq] at y
    have y2 := HO.tup.inj (Option.some.inj y)
    cases fs with
    | nil => simp at y2
    | cons x fs => simp at y2
  have S : Shw H [.ref p, .ref q] 1 _ _ _ := Shw.tup (d := 0) t.hp r1 (by simp) (Shw.tup (d := 0) t.hq r2 (by simp) .nil)
  rw [t.v]
  refine ⟨_, _, _, Shw.tup (d := 1) t.he S (by simp [pe, qe]) .nil, by omega, by simp [n1.symm, n2.symm, n3.symm], fun a ha => ?_⟩
  simp at ha
  rcases ha with rfl | rfl | rfl
  · exact ⟨_, t.he, fun n rest v _ _ z => by simp at z⟩
  · exact ⟨_, t.hp, fun n rest v _ _ z => by
      cases ns with
      | nil => simp at z
      | cons y ns => simp at z⟩
  · refine ⟨_, t.hq, fun n rest v hv hu z => ?_⟩
    cases fs with
    | nil => simp at z
    | cons y fs =>
      rw [List.map_cons] at z
      injection z with _ z2
      rw [← z2] at hv
      obtain ⟨y2, _, rfl⟩ := List.mem_map.mp hv
      rcases hu with k | ⟨_, k⟩ <;> cases k
theorem En.shw (h : En b H v) : ∃ as t c, Shw H [v] 2 as [t] c ∧ c ≤ 5000 ∧ b ∉ as ∧ ∀ a ∈ as, Low2 H a := by
  rcases h with rfl | h
  · exact ⟨_, _, _, .non .nil, by decide, by simp, fun a ha => by cases ha⟩
  · exact h.shw
theorem En.or (h : En b H v) : v = .non ∨ ∃ z, v = .ref z := h.imp id Ent.ref
end V9
/-! Names; a list mixed. -/
namespace V9
open PySem PySem.Spec PyProof.Rows L2 TL
abbrev sMixed : Stmt := topS 28
abbrev sNames : Stmt := topS 32
theorem scMixed : FnScope ["bag", "things", "found", "thing"] ["bag", "things"] (defScope sMixed) := ⟨rfl, rfl, rfl, by decide +kernel, rfl, by decide +kernel, by decide +kernel⟩
theorem scNames : FnScope ["many"] ["many"] (defScope sNames) := ⟨rfl, rfl, rfl, by decide +kernel, rfl, by decide +kernel, by decide +kernel⟩
section
variable {P : Program} {w : World} {K : PySem.W.Frag} {mg : PySem.Str → Option Value} {base : Heap}
def spNames : Sp := fun vs H Q _ => vs = [.int 12] ∧ ∀ H' p, Same H H' → H' p = some (.tup (NMS.map V.str)) → Q (.ref p) H'
theorem ok_names {f : Addr} {fd : FuncData} {k : Nat} (F : Fun K "_law_names" "_law_names" sNames f fd) : FnOk P w K mg base CX0 (k + 1) f fd ["many"] spNames := by
  refine F.ok scNames (fun vs H Q E h => ?_) (fun cdv A outer s H vs Q E hr h => ?_)
  · obtain ⟨rfl, _⟩ := h
    rfl
  · obtain ⟨rfl, q⟩ := h
    refine ⟨_, pss_one (ps_ret (pe_slice sl_tupA (pe_tup (pa_cons pe_str (pa_cons pe_str (pa_cons pe_str (pa_cons pe_str (pa_cons pe_str (pa_cons pe_str (pa_cons pe_str (pa_cons pe_str (pa_cons pe_str (pa_cons pe_str (pa_cons pe_str (pa_cons pe_str pa_nil))))))))))))) po_none (po_some (pv 0)))), ?_⟩
    refine ⟨by show 12 ≤ sizeLine; decide, fun p np => ⟨_, rfl, _, rfl, p, NMS.map V.str, rfl, .inl (.inl upd_same), fun _ => q _ p (new_same np) upd_same, fun n => absurd (by decide +kernel) n⟩⟩
def spMixed : Sp := fun vs H Q _ => ∃ (b t : Addr) (xs : List V), vs = [.ref b, .ref t] ∧ Bag H b ∧ H t = some (.lst xs) ∧ t ≠ b ∧ xs.length ≤ 60 ∧ ∀ H' r ys, Chb b H H' → Bag H' b → H r = none → H' r = some (.lst ys) → ys.Perm xs → r ≠ b → Q (.ref r) H'
theorem ok_mixed {f fT : Addr} {fd fdT : FuncData} {k : Nat} (F : Fun K "_law_mixed" "_law_mixed" sMixed f fd) (FT : Fun K "_law_take" "_law_take" sTake fT fdT) (bT : Binds K fdT ["bag", "many"] []) (gT : mg "_law_take" = some (.ref fT))
    (mI : mg "int" = none) (mL : mg "len" = none) : FnOk P w K mg base CX0 (k + 2) f fd ["bag", "things"] spMixed := by
  have GT : FnOk P w K mg base CX0 (k + 1) fT fdT ["bag", "many"] spTake := ok_take FT mI
  refine F.ok scMixed (fun vs H Q E h => ?_) (fun cdv A outer s H vs Q E hr h => ?_)
  · obtain ⟨b, t, xs, rfl, _⟩ := h
    rfl
  · obtain ⟨b, t, xs, rfl, hB, ht, tb, hl, q⟩ := h
    refine ⟨_, pss_cons (ps_set (i := 2) scMixed.nd rfl (.inl rfl) (pe_lst pa_nil))
      (pss_cons (ps_for PassesOwn.never rfl (pi_list (pv 1)) (pg_name (i := 3) scMixed.nd rfl (Or.inl rfl))
        (pss_one (ps_expr (pe_bm PySem.F.plainAttrs_list PySem.F.slot_list_insert PySem.F.type_list_insert mt_insert (pv 2) (pa_cons (pe_call GT hr (by rfl) gT FT.kp bT .nil pass0 (pa_cons (pv 0) (pa_cons (pe_op op_add (pe_callB call_len_seq (by rfl) mL PySem.boot_len (pa_cons (pv 2) pa_nil)) pe_int) pa_nil))) (pa_cons (pv 3) pa_nil))))))
      (pss_one (ps_ret (pv 2)))), ?_⟩
    refine ⟨by show 0 ≤ sizeLine; exact Nat.zero_le _, fun l nl => ⟨.ref t, rfl, t, rfl, ⟨xs, .inl (.inl (new_ne ht nl))⟩, ?_⟩⟩
    obtain ⟨ob, hb⟩ := hB.lst
    obtain ⟨lc, cs0, O0, hlc, lcb⟩ := hB.own
    have lb : l ≠ b := (ne_of_none hb nl).symm
    have ll : l ≠ lc := (ne_of_none hlc nl).symm
    refine for_list (K := K) (a := t) (xs := xs) (fun i σ' H' => (∃ y, σ' = [some (.ref b), some (.ref t), some (.ref l), y]) ∧ Chb b H H' ∧ Bag H' b ∧ ∃ ys, H' l = some (.lst ys) ∧ ys.Perm (xs.take i)) ⟨⟨none, rfl⟩, Chb.new nl, hB.same (new_same nl), [], upd_same, by simp⟩ (fun i σ' H' _ hP => ?_) (fun i x σ' H1 hx hP => ?_) (fun σ' H1 hP => ?_)
    · obtain ⟨_, c1, _⟩ := hP
      exact .inl (.inl (c1 _ _ tb ht))
    · obtain ⟨⟨y, rfl⟩, c1, B1, ys, hys, pm⟩ := hP
      have ly : ys.length ≤ 60 := by
        rw [pm.length_eq, List.length_take]
        omega
      refine ⟨_, rfl, .inl ⟨rfl, _, .inl (.inl hys)⟩, _, rfl, _, rfl, l, ys, rfl, .inl (.inl (.inl hys)), _, _, rfl, rfl, b, _, rfl, B1, by omega, by omega, fun H2 v c2 B2 v0 v1 => ⟨_, rfl, ?_⟩⟩
      have hys2 := c2 _ _ lb hys
      have c12 := c1.trans c2
      refine ⟨l, ys, v, x, rfl, rfl, hys2, by rw [sizeLine_eq]; omega, v0, by omega, ⟨_, rfl⟩, c12.put nl lb, (B2.set (O0.chb c12) lb ll).1, _, upd_same, ?_⟩
      have e : xs.take (i + 1) = xs.take i ++ [x] := by rw [List.take_add_one, hx]; rfl
      rw [e]
      have p1 : (ys.take v.toNat ++ [x] ++ ys.drop v.toNat).Perm (x :: ys) := by
        have h0 : (x :: (ys.take v.toNat ++ ys.drop v.toNat)).Perm (ys.take v.toNat ++ [x] ++ ys.drop v.toNat) := by
          rw [List.append_assoc]
          exact List.perm_middle.symm
        rw [List.take_append_drop] at h0
        exact h0.symm
      exact p1.trans ((List.Perm.cons x pm).trans (List.perm_append_singleton _ _).symm)
    · obtain ⟨⟨y, rfl⟩, c1, B1, ys, hys, pm⟩ := hP
      rw [List.take_of_length_le (Nat.le_refl _)] at pm
      exact ⟨_, rfl, q H1 l ys c1 B1 nl hys pm lb⟩
end
end V9
/-! Features drawn. -/
namespace V9
open PySem PySem.Spec PyProof.Rows L2 TL
theorem same_no {H H' : Hp} {p : Addr} (s : Same H H') (h : H' p = none) : H p = none := by
  cases e : H p with
  | none => rfl
  | some o => have := s _ _ e; rw [h] at this; cases this
/-- sorted(set(e)), e a list of texts -/
theorem pe_sortSet {X : Cx} {e : Expr} {te : TE} {p1 p2 p3 p4 : Pos} (hc : X.calm = true) (hg1 : Gl X "sorted") (hg2 : Gl X "set") (m1 : X.mg "sorted" = none) (m2 : X.mg "set" = none) (he : PE X e te)
    (h1 : starEach (e :: []) X.env = (false, eval e X.env) :: starEach [] X.env) :
    PE X (.Call (.Name "sorted" p1) [.Call (.Name "set" p2) [e] [] p3] [] p4) (fun σ H Q => te σ H fun x H1 => ∃ (l : Addr) (xs : List PySem.Str), x = .ref l ∧ H1 l = some (.lst (xs.map V.str)) ∧ xs.length < 64 ∧
      ∀ (H' : Hp) (p : Addr) (ys : List PySem.Str), Same H1 H' → H1 p = none → H' p = some (.lst (ys.map V.str)) → TX.Asc ys → (∀ x, x ∈ ys ↔ x ∈ xs) → ys.length ≤ xs.length → Q (.ref p) H') := by
  constructor
  intro pins s σ H Q I h
  have R := pe_callB (X := X) (pos := p4) (p := p1) (TX.cr_sortedX hc) hg1 m1 (by decide +kernel) (pa_cons (pe_callTy (pos := p3) (p := p2) (TX.cr_setX hc) hg2 m2 (by decide +kernel) (pa_cons (pe_mid he) pa_nil h1) (by decide) (by decide) h1 (by rfl)) pa_nil) (by decide) (by decide) (by rfl) (by rfl)
  refine R.run pins s σ H Q I ⟨_, h, ?_⟩
  rintro x H1 ⟨l, xs, rfl, hl, few, q⟩
  refine ⟨l, xs, rfl, .inl (.inl hl), few, fun a na => ⟨a, xs, rfl, upd_same, few, fun ys p as mm le np => ?_⟩⟩
  have s1 : Same H1 (upd H1 a (TX.SXO X.prog X.w a xs)) := new_same na
  exact q _ p ys (s1.trans (new_same np)) (same_no s1 np) upd_same as mm le
abbrev sFeat : Stmt := topS 33
theorem scFeat : FnScope ["bag", "name", "some", "feature"] ["bag", "name"] (defScope sFeat) := ⟨rfl, rfl, rfl, by decide +kernel, rfl, by decide +kernel, by decide +kernel⟩
section
variable {P : Program} {w : World} {K : PySem.W.Frag} {mg : PySem.Str → Option Value} {base : Heap}
def spFeat : Sp := fun vs H Q _ => ∃ (b : Addr) (x : PySem.Str), vs = [.ref b, .str x] ∧ Bag H b ∧ x ∈ NMS ∧ ∀ (H' : Hp) (p : Addr) (fs : List PySem.Str), Chb b H H' → Bag H' b → H' p = some (.tup (fs.map V.str)) → (∀ y ∈ fs, y ∈ FTS) → fs.length ≤ 4 → TX.Asc fs → p ≠ b → Q (.ref p) H'
theorem ok_feat {f fT : Addr} {fd fdT : FuncData} {k : Nat} (F : Fun K "_law_feature_names" "_law_feature_names" sFeat f fd) (FT : Fun K "_law_take" "_law_take" sTake fT fdT) (bT : Binds K fdT ["bag", "many"] []) (gT : mg "_law_take" = some (.ref fT))
    (mI : mg "int" = none) (mU : mg "tuple" = none) (mS : mg "sorted" = none) (mE : mg "set" = none) : FnOk P w K mg base CX0 (k + 2) f fd ["bag", "name"] spFeat := by
  have GT : FnOk P w K mg base CX0 (k + 1) fT fdT ["bag", "many"] spTake := ok_take FT mI
  refine F.ok scFeat (fun vs H Q E h => ?_) (fun cdv A outer s H vs Q E hr h => ?_)
  · obtain ⟨b, x, rfl, _⟩ := h
    rfl
  · obtain ⟨b, x, rfl, hB, hx, q⟩ := h
    refine ⟨_, pss_cons (ps_set (i := 2) scFeat.nd rfl (.inl rfl) (pe_lst (pa_cons pe_str (pa_cons pe_str (pa_cons (pe_slice sl_str (pv 1) po_none (po_some pe_int)) (pa_cons pe_str pa_nil))))))
      (pss_one (ps_ret (pe_callTy call_tuple_of (by rfl) mU (by decide +kernel) (pa_cons (pe_sortSet rfl (by rfl) (by rfl) mS mE (pe_lc (own := [("feature", 3)]) (g := gName 3) rfl scFeat.nd (pi_list (pv 2)) (blkOk_by (N := ["bag", "name", "some", "feature"]) (sc := defScope sFeat) (by decide +kernel))
        (fun _ _ _ _ _ => pg_name (i := 3) scFeat.nd rfl (Or.inl rfl)) (fun _ _ _ _ _ => pts_one (pt_cmpR op_eq (pe_call GT hr (by rfl) gT FT.kp bT .nil pass0 (pa_cons (pv 0) (pa_cons pe_int pa_nil))) pe_int (nomark _))) (fun _ _ _ _ _ => pv 3)) (by rfl)) pa_nil)))), ?_⟩
    have lx : x.length ≤ 100 := (okT_shw (nms_ok x hx)).1
    refine ⟨_, rfl, 3, rfl, x, rfl, by rw [sizeLine_eq]; omega, by show 4 ≤ sizeLine; decide, fun l nl => ?_⟩
    obtain ⟨ob, hb⟩ := hB.lst
    obtain ⟨lc, cs0, O0, hlc, lcb⟩ := hB.own
    have lb : l ≠ b := (ne_of_none hb nl).symm
    have mem : ∀ y ∈ [("fast" : PySem.Str), "x", cutS x none (some 3), "tls"], y ∈ FTS := by
      intro y hy
      simp only [List.mem_cons, List.not_mem_nil, or_false] at hy
      unfold FTS
      rw [List.mem_append]
      rcases hy with e | e | e | e
      · exact .inl (by rw [e]; decide +kernel)
      · exact .inl (by rw [e]; decide +kernel)
      · exact .inr (List.mem_map.mpr ⟨x, hx, e.symm⟩)
      · exact .inl (by rw [e]; decide +kernel)
    have B1 : Bag (upd H l (.lst [.str "fast", .str "x", .str (cutS x none (some 3)), .str "tls"])) b := hB.same (new_same nl)
    have c1 : Chb b H (upd H l (.lst [.str "fast", .str "x", .str (cutS x none (some 3)), .str "tls"])) := Chb.new nl
    have hl1 : upd H l (.lst [.str "fast", .str "x", .str (cutS x none (some 3)), .str "tls"]) l = some (.lst ([("fast" : PySem.Str), "x", cutS x none (some 3), "tls"].map V.str)) := upd_same
    generalize hfs : [("fast" : PySem.Str), "x", cutS x none (some 3), "tls"] = fs0 at mem hl1
    have l4 : fs0.length = 4 := by rw [← hfs]; rfl
    generalize upd H l (.lst [.str "fast", .str "x", .str (cutS x none (some 3)), .str "tls"]) = H1 at B1 c1 hl1 ⊢
    refine ⟨.ref l, rfl, l, rfl, ⟨_, .inl (.inl hl1)⟩, fun D nD => ?_⟩
    obtain ⟨o1, hb1⟩ := B1.lst
    obtain ⟨lc1, cs1, O1, hlc1, lcb1⟩ := B1.own
    have Db : D ≠ b := (ne_of_none hb1 nD).symm
    have Dl : D ≠ lc1 := (ne_of_none hlc1 nD).symm
    refine lc_list (K := K) (a := l) (xs := fs0.map V.str) (fun i Hc => Chb b H1 Hc ∧ Bag Hc b ∧ ∃ ys : List PySem.Str, Hc D = some (.lst (ys.map V.str)) ∧ ys.length ≤ i ∧ ∀ y ∈ ys, y ∈ FTS) ⟨Chb.new nD, B1.same (new_same nD), [], upd_same, Nat.le_refl _, fun y hy => by cases hy⟩ (fun i Hc _ hP => .inl (.inl (hP.1 _ _ lb hl1))) (fun i y Hc hy hP => ?_) (fun Hc hP => ?_)
    · obtain ⟨c2, B2, ys, d1, d2, d3⟩ := hP
      rw [List.getElem?_map] at hy
      cases hz : fs0[i]? with
      | none => rw [hz] at hy; cases hy
      | some z =>
        rw [hz] at hy
        cases hy
        have hi : i < 4 := by rw [← l4]; exact (List.getElem?_eq_some_iff.mp hz).1
        refine ⟨rfl, _, rfl, b, 3, rfl, B2, by decide, by decide, fun H3 v c3 B3 v0 v1 => ⟨rfl, _, rfl, ite2 (fun e => ?_) (fun e => ?_)⟩⟩
        · have d4 := c3 _ _ Db d1
          have c13 := c2.trans c3
          refine ⟨_, rfl, ys.map V.str, d4, by rw [List.length_map, sizeLine_eq]; omega, c13.put nD Db, (B3.set (O1.chb c13) Db Dl).1, ys ++ [z], ?_, by rw [List.length_append, List.length_singleton]; omega, fun u hu => ?_⟩
          · rw [List.map_append]
            exact upd_same
          · rcases List.mem_append.mp hu with e | e
            · exact d3 u e
            · rw [List.mem_singleton] at e
              exact e ▸ mem z (List.mem_of_getElem? hz)
        · exact ⟨c2.trans c3, B3, ys, c3 _ _ Db d1, by omega, d3⟩
    · obtain ⟨c2, B2, ys, d1, d2, d3⟩ := hP
      rw [List.length_map, l4] at d2
      refine ⟨D, ys, rfl, d1, by omega, fun H3 p zs s3 np hp as mm le => ⟨p, zs.map V.str, rfl, .inl ⟨.inl (.inl hp), fun r nr => ?_⟩⟩⟩
      have B3 := B2.same s3
      obtain ⟨o3, hb3⟩ := B3.lst
      exact q _ r zs (((c1.trans c2).trans (Chb.same s3)).trans (Chb.new nr)) (B3.same (new_same nr)) upd_same (fun y hy => d3 y ((mm y).mp hy)) (by omega) as (ne_of_none hb3 nr).symm
end
end V9
/-! What keeps tuples; pairs; locks. -/
namespace V9
open PySem PySem.Spec PyProof.Rows L2 TL
/-- all tuples stay -/
def KT (H H' : Hp) : Prop := ∀ a xs, H a = some (.tup xs) → H' a = some (.tup xs)
theorem KT.trans {H H1 H2 : Hp} (x : KT H H1) (y : KT H1 H2) : KT H H2 := fun a xs h => y a xs (x a xs h)
theorem KT.same {H H' : Hp} (s : Same H H') : KT H H' := fun a xs h => s _ _ h
theorem KT.new {H : Hp} {p : Addr} {o : HO} (n : H p = none) : KT H (upd H p o) := KT.same (new_same n)
theorem KT.lst {H : Hp} {p : Addr} {o : HO} {xs : List V} (n : H p = some (.lst xs)) : KT H (upd H p o) := fun a ys h => by
  rw [upd_ne (fun z => by rw [z, n] at h; cases h)]
  exact h
theorem KT.dic {H : Hp} {p : Addr} {o : HO} {xs : List (L2.Key × V)} (n : H p = some (.dK xs)) : KT H (upd H p o) := fun a ys h => by
  rw [upd_ne (fun z => by rw [z, n] at h; cases h)]
  exact h
theorem Chb.kt {b : Addr} {H H' : Hp} (B : Bag H b) (c : Chb b H H') : KT H H' := fun a xs h => by
  obtain ⟨n, m, k, l, cs, hb, _⟩ := B
  exact c _ _ (fun z => by rw [z, hb] at h; cases h) h
section
variable {b : Addr} {H H' : Hp} {v : V}
theorem Et.kt {e p q : Addr} {ns : List Int} {fs : List PySem.Str} (t : Et H v e p q ns fs) (k : KT H H') : Et H' v e p q ns fs := ⟨t.v, k _ _ t.he, k _ _ t.hp, t.vs, k _ _ t.hq, t.ok, t.few, t.as⟩
theorem Ent.kt (h : Ent b H v) (k : KT H H') : Ent b H' v := by
  obtain ⟨e, p, q, ns, fs, t, n⟩ := h
  exact ⟨e, p, q, ns, fs, t.kt k, n⟩
theorem En.kt (h : En b H v) (k : KT H H') : En b H' v := h.imp id fun h => h.kt k
theorem En.contK (h : En b H v) (k : KT H H') : V9.cont H' v = V9.cont H v := by
  rcases h with rfl | ⟨e, p, q, ns, fs, t, n⟩
  · rfl
  · rw [t.cont, (t.kt k).cont]
theorem ne_kt {x y : V} (hx : En b H x) (hy : En b H y) (k : KT H H') : ne H' x y = ne H x y := by
  unfold ne
  rw [hx.contK k, hy.contK k]
end
/-- pairs of a name and an entry -/
abbrev Pr := Addr × PySem.Str × V
def PL (b : Addr) (H : Hp) (L : List Pr) : Prop := ∀ q ∈ L, H q.1 = some (.tup [.str q.2.1, q.2.2]) ∧ Ent b H q.2.2
abbrev rfs (L : List Pr) : List V := L.map fun q => V.ref q.1
theorem PL.kt {b : Addr} {H H' : Hp} {L : List Pr} (h : PL b H L) (k : KT H H') : PL b H' L := fun q hq => ⟨k _ _ (h q hq).1, (h q hq).2.kt k⟩
theorem PL.snoc {b : Addr} {H : Hp} {L : List Pr} {q : Pr} (h : PL b H L) (h1 : H q.1 = some (.tup [.str q.2.1, q.2.2])) (h2 : Ent b H q.2.2) : PL b H (L ++ [q]) := fun r hr => by
  rcases List.mem_append.mp hr with e | e
  · exact h r e
  · rw [List.mem_singleton] at e
    exact e ▸ ⟨h1, h2⟩
/-- a dict's pairs -/
def kk (ks : List (PySem.Str × V)) : List (L2.Key × V) := ks.map fun p => (Sum.inr p.1, p.2)
theorem kk_keys (ks : List (PySem.Str × V)) : (kk ks).map (·.1) = (ks.map (·.1)).map Sum.inr := by
  unfold kk
  rw [List.map_map, List.map_map]
  rfl
theorem perm_map_inv {α β : Type} {f : α → β} {ys zs : List β} (p : ys.Perm zs) : ∀ L : List α, zs = L.map f → ∃ L' : List α, L'.Perm L ∧ ys = L'.map f := by
  induction p with
  | nil =>
    intro L h
    cases L with
    | nil => exact ⟨[], .nil, rfl⟩
    | cons a L => cases h
  | cons x p ih =>
    intro L h
    cases L with
    | nil => cases h
    | cons a L =>
      rw [List.map_cons] at h
      injection h with h1 h2
      obtain ⟨L', q, e⟩ := ih L h2
      exact ⟨a :: L', q.cons a, by rw [List.map_cons, h1, e]⟩
  | swap x y l =>
    intro L h
    cases L with
    | nil => cases h
    | cons a L =>
      cases L with
      | nil => rw [List.map_cons] at h; injection h with _ h2; cases h2
      | cons c L =>
        rw [List.map_cons, List.map_cons] at h
        injection h with h1 h2
        injection h2 with h2 h3
        exact ⟨c :: a :: L, List.Perm.swap a c L, by rw [List.map_cons, List.map_cons, h1, h2, h3]⟩
  | trans p1 p2 i1 i2 =>
    intro L h
    obtain ⟨L1, q1, e1⟩ := i2 L h
    obtain ⟨L2, q2, e2⟩ := i1 L1 e1
    exact ⟨L2, q2.trans q1, e2⟩
theorem merge_nd : ∀ (more kvs : List (L2.Key × V)), ((kvs ++ more).map (·.1)).Nodup → mergeK kvs more = kvs ++ more
  | [], kvs, _ => (List.append_nil kvs).symm
  | kv :: more, kvs, h => by
    have hn : valV kvs kv.1 = none := by
      cases e : valV kvs kv.1 with
      | none => rfl
      | some v =>
        have hm := valV_in e
        rw [List.map_append, List.nodup_append] at h
        exact absurd rfl (h.2.2 kv.1 hm kv.1 (by rw [List.map_cons]; exact List.mem_cons_self))
    show mergeK (putK kvs kv.1 kv.2) more = _
    rw [putK_new _ hn]
    have e : kvs ++ [(kv.1, kv.2)] ++ more = kvs ++ kv :: more := by simp
    rw [merge_nd more (kvs ++ [(kv.1, kv.2)]) (by rw [e]; exact h), e]
/-- a lock over some names -/
structure Lk (b : Addr) (H : Hp) (d : Addr) (nm : List PySem.Str) (ks : List (PySem.Str × V)) : Prop where
  at_ : H d = some (.dK (kk ks))
  nb : d ≠ b
  nd : (ks.map (·.1)).Nodup
  all : ∀ p ∈ ks, p.1 ∈ nm ∧ Ent b H p.2
theorem Lk.same {b d : Addr} {H H' : Hp} {nm : List PySem.Str} {ks : List (PySem.Str × V)} (h : Lk b H d nm ks) (s : Same H H') : Lk b H' d nm ks :=
  ⟨s _ _ h.at_, h.nb, h.nd, fun p hp => ⟨(h.all p hp).1, (h.all p hp).2.kt (KT.same s)⟩⟩
theorem Lk.chb {b d : Addr} {H H' : Hp} {nm : List PySem.Str} {ks : List (PySem.Str × V)} (h : Lk b H d nm ks) (B : Bag H b) (c : Chb b H H') : Lk b H' d nm ks :=
  ⟨c _ _ h.nb h.at_, h.nb, h.nd, fun p hp => ⟨(h.all p hp).1, (h.all p hp).2.kt (Chb.kt B c)⟩⟩
structure Nm (nm : List PySem.Str) : Prop where
  nd : nm.Nodup
  ok : ∀ x ∈ nm, x ∈ NMS
  few : nm.length ≤ 7
theorem nodup_le {α : Type} [DecidableEq α] : ∀ {xs ys : List α}, xs.Nodup → (∀ x ∈ xs, x ∈ ys) → xs.length ≤ ys.length
  | [], ys, _, _ => Nat.zero_le _
  | x :: xs, ys, h, m => by
    obtain ⟨h1, h2⟩ := List.nodup_cons.mp h
    have hx : x ∈ ys := m x List.mem_cons_self
    have ih := nodup_le (xs := xs) (ys := ys.erase x) h2 fun y hy => (List.mem_erase_of_ne (fun e : y = x => h1 (by rw [← e]; exact hy))).mpr (m y (List.mem_cons_of_mem _ hy))
    rw [List.length_erase_of_mem hx] at ih
    have : 0 < ys.length := List.length_pos_of_mem hx
    rw [List.length_cons]
    omega
theorem Lk.few {b d : Addr} {H : Hp} {nm : List PySem.Str} {ks : List (PySem.Str × V)} (h : Lk b H d nm ks) (n : Nm nm) : ks.length ≤ 7 := by
  have := nodup_le h.nd (ys := nm) fun x hx => by
    obtain ⟨p, hp, rfl⟩ := List.mem_map.mp hx
    exact (h.all p hp).1
  rw [List.length_map] at this
  exact Nat.le_trans this n.few
/-- a dict is made of a list of pairs in any order -/
theorem pairs_dict {K : PySem.W.Frag} {b : Addr} {H : Hp} {L : List Pr} (h : PL b H L) : Paired (fun p kv => SqT K H p [kV kv.1, kv.2]) (L.map (·.1)) (kk (L.map (·.2))) := by
  induction L with
  | nil => exact .nil
  | cons q L ih => exact .cons (.inl (.inl (h q List.mem_cons_self).1)) (ih fun r hr => h r (List.mem_cons_of_mem _ hr))
theorem kk_nd {ks : List (PySem.Str × V)} (h : (ks.map (·.1)).Nodup) : ((kk ks).map (·.1)).Nodup := by
  rw [kk_keys]
  exact List.Pairwise.map Sum.inr (fun a b n e => n (Sum.inr.inj e)) h
end V9
/-! Locks drawn; a dict with its keys ascending. -/
namespace V9
open PySem PySem.Spec PyProof.Rows L2 TL
abbrev sAny : Stmt := topS 41
abbrev sAsc : Stmt := topS 42
theorem scAny : FnScope ["bag", "names", "found", "name"] ["bag", "names"] (defScope sAny) := ⟨rfl, rfl, rfl, by decide +kernel, rfl, by decide +kernel, by decide +kernel⟩
theorem scAsc : FnScope ["found", "key"] ["found"] (defScope sAsc) := ⟨rfl, rfl, rfl, by decide +kernel, rfl, by decide +kernel, by decide +kernel⟩
section
variable {P : Program} {w : World} {K : PySem.W.Frag} {mg : PySem.Str → Option Value} {base : Heap}
/-- what the draws lean on -/
structure Drw (K : PySem.W.Frag) (mg : PySem.Str → Option Value) (fT fO fM fV fE : Addr) (dT dO dM dV dE : FuncData) : Prop where
  FT : Fun K "_law_take" "_law_take" sTake fT dT
  FO : Fun K "_law_one" "_law_one" sOne fO dO
  FM : Fun K "_law_mixed" "_law_mixed" sMixed fM dM
  FV : Fun K "_law_version" "_law_version" sVersion fV dV
  FE : Fun K "_law_feature_names" "_law_feature_names" sFeat fE dE
  bT : Binds K dT ["bag", "many"] []
  bO : Binds K dO ["bag", "things"] []
  bM : Binds K dM ["bag", "things"] []
  bV : Binds K dV ["bag"] []
  bE : Binds K dE ["bag", "name"] []
  gT : mg "_law_take" = some (.ref fT)
  gO : mg "_law_one" = some (.ref fO)
  gM : mg "_law_mixed" = some (.ref fM)
  gV : mg "_law_version" = some (.ref fV)
  gE : mg "_law_feature_names" = some (.ref fE)
  mI : mg "int" = none
  mL : mg "len" = none
  mR : mg "range" = none
  mU : mg "tuple" = none
  mS : mg "sorted" = none
  mE : mg "set" = none
  mD : mg "dict" = none
  mLi : mg "list" = none
variable {fT fO fM fV fE : Addr} {dT dO dM dV dE : FuncData}
def spAny : Sp := fun vs H Q _ => ∃ (b t : Addr) (nm : List PySem.Str), vs = [.ref b, .ref t] ∧ Bag H b ∧ H t = some (.lst (nm.map V.str)) ∧ t ≠ b ∧ Nm nm ∧
  ∀ (H' : Hp) (d : Addr) (ks : List (PySem.Str × V)), Chb b H H' → Bag H' b → Lk b H' d nm ks → Q (.ref d) H'
theorem ok_any {f : Addr} {fd : FuncData} {k : Nat} (F : Fun K "_law_any_lock" "_law_any_lock" sAny f fd) (T : Drw K mg fT fO fM fV fE dT dO dM dV dE) : FnOk P w K mg base CX0 (k + 4) f fd ["bag", "names"] spAny := by
  have GT : FnOk P w K mg base CX0 (k + 3) fT dT ["bag", "many"] spTake := ok_take T.FT T.mI
  have GV : FnOk P w K mg base CX0 (k + 3) fV dV ["bag"] spVersion := ok_version T.FV T.FO T.bO T.gO T.FT T.bT T.gT T.mI T.mL T.mR T.mU
  have GE : FnOk P w K mg base CX0 (k + 3) fE dE ["bag", "name"] spFeat := ok_feat T.FE T.FT T.bT T.gT T.mI T.mU T.mS T.mE
  have GM : FnOk P w K mg base CX0 (k + 3) fM dM ["bag", "things"] spMixed := ok_mixed T.FM T.FT T.bT T.gT T.mI T.mL
  refine F.ok scAny (fun vs H Q E h => ?_) (fun cdv A outer s H vs Q E hr h => ?_)
  · obtain ⟨b, t, nm, rfl, _⟩ := h
    rfl
  · obtain ⟨b, t, nm, rfl, hB, ht, tb, hN, q⟩ := h
    refine ⟨_, pss_cons (ps_set (i := 2) scAny.nd rfl (.inl rfl) (pe_lst pa_nil))
      (pss_cons (ps_for PassesOwn.never rfl (pi_list (pv 1)) (pg_name (i := 3) scAny.nd rfl (Or.inl rfl))
        (pss_one (ps_if (pt_cmpR op_gt (pe_call GT hr (by rfl) T.gT T.FT.kp T.bT .nil pass0 (pa_cons (pv 0) (pa_cons pe_int pa_nil))) pe_int (nomark _))
          (pss_one (ps_expr (pe_bm PySem.F.plainAttrs_list PySem.F.slot_list_append PySem.F.type_list_append mt_append (pv 2) (pa_cons (pe_tup (pa_cons (pv 3) (pa_cons (pe_tup (pa_cons (pe_call GV hr (by rfl) T.gV T.FV.kp T.bV .nil pass0 (pa_cons (pv 0) pa_nil))
            (pa_cons (pe_mid (pe_ifExp (pt_cmpR op_eq (pe_call GT hr (by rfl) T.gT T.FT.kp T.bT .nil pass0 (pa_cons (pv 0) (pa_cons pe_int pa_nil))) pe_int (nomark _)) (pe_call GE hr (by rfl) T.gE T.FE.kp T.bE .nil pass0 (pa_cons (pv 0) (pa_cons (pv 3) pa_nil))) (pe_tup pa_nil))) pa_nil))) pa_nil))) pa_nil)))) pss_nil)))
      (pss_one (ps_ret (pe_callTy (call_dictP rfl) (by rfl) T.mD (by decide +kernel) (pa_cons (pe_call GM hr (by rfl) T.gM T.FM.kp T.bM .nil pass0 (pa_cons (pv 0) (pa_cons (pv 2) pa_nil))) pa_nil))))), ?_⟩
    refine ⟨by show 0 ≤ sizeLine; exact Nat.zero_le _, fun l nl => ⟨.ref t, rfl, t, rfl, ⟨_, .inl (.inl (new_ne ht nl))⟩, ?_⟩⟩
    obtain ⟨ob, hb⟩ := hB.lst
    obtain ⟨lc, cs0, O0, hlc, lcb⟩ := hB.own
    have lb : l ≠ b := (ne_of_none hb nl).symm
    have ll : l ≠ lc := (ne_of_none hlc nl).symm
    refine for_list (K := K) (a := t) (xs := nm.map V.str) (fun i σ' H' => (∃ y, σ' = [some (.ref b), some (.ref t), some (.ref l), y]) ∧ Chb b H H' ∧ Bag H' b ∧ ∃ L, H' l = some (.lst (rfs L)) ∧ PL b H' L ∧ (L.map (·.2.1)).Sublist (nm.take i))
      ⟨⟨none, rfl⟩, Chb.new nl, hB.same (new_same nl), [], upd_same, (fun q hq => by cases hq), (by simp)⟩ (fun i σ' H' _ hP => .inl (.inl (hP.2.1 _ _ tb ht))) (fun i x σ' H1 hx hP => ?_) (fun σ' H1 hP => ?_)
    · obtain ⟨⟨y, rfl⟩, c1, B1, L, hl, hL, sub⟩ := hP
      rw [List.getElem?_map] at hx
      cases hz : nm[i]? with
      | none => rw [hz] at hx; cases hx
      | some z =>
        rw [hz] at hx
        cases hx
        have zn : z ∈ nm := List.mem_of_getElem? hz
        have et : nm.take (i + 1) = nm.take i ++ [z] := by rw [List.take_add_one, hz]; rfl
        refine ⟨_, rfl, b, 3, rfl, B1, by decide, by decide, fun H2 v c2 B2 v0 v1 => ⟨v, 0, rfl, rfl, _, rfl, ite2 (fun e => ?_) (fun e => ?_)⟩⟩
        · have hl2 := c2 _ _ lb hl
          refine ⟨_, rfl, .inl ⟨rfl, _, .inl (.inl hl2)⟩, _, rfl, _, rfl, b, rfl, B2, fun H3 p ns c3 B3 hp vs pb => ?_⟩
          refine ⟨fun u H' => ∃ (q : Addr) (fs : List PySem.Str), u = .ref q ∧ Chb b H3 H' ∧ Bag H' b ∧ H' q = some (.tup (fs.map V.str)) ∧ (∀ y ∈ fs, y ∈ FTS) ∧ fs.length ≤ 4 ∧ TX.Asc fs ∧ q ≠ b, ?_, ?_⟩
          · refine ⟨_, rfl, b, 2, rfl, B3, by decide, by decide, fun H4 u c4 B4 u0 u1 => ⟨rfl, _, rfl, ite2 (fun e => ?_) (fun e => ?_)⟩⟩
            · exact ⟨_, rfl, _, rfl, b, z, rfl, B4, hN.ok z zn, fun H5 q fs c5 B5 hq hf h4 ha qb => ⟨q, fs, rfl, c4.trans c5, B5, hq, hf, h4, ha, qb⟩⟩
            · obtain ⟨o4, hb4⟩ := B4.lst
              exact ⟨by show 0 ≤ sizeLine; exact Nat.zero_le _, fun q nq => ⟨q, [], rfl, c4.trans (Chb.new nq), B4.same (new_same nq), upd_same, (fun y hy => by cases hy), by decide, ⟨rfl, List.nodup_nil⟩, (ne_of_none hb4 nq).symm⟩⟩
          · rintro x H4 ⟨q2, fs, rfl, c4, B4, hq, hf, h4, ha, qb⟩
            refine ⟨by show 2 ≤ sizeLine; decide, fun e ne => ⟨by show 2 ≤ sizeLine; decide, fun r nr => ?_⟩⟩
            have hp4 := c4 _ _ pb hp
            obtain ⟨o4, hb4⟩ := B4.lst
            have eb : e ≠ b := (ne_of_none hb4 ne).symm
            have he5 : upd H4 e (.tup [.ref p, .ref q2]) e = some (.tup [.ref p, .ref q2]) := upd_same
            have en5 : Ent b (upd H4 e (.tup [.ref p, .ref q2])) (.ref e) := ⟨e, p, q2, ns, fs, ⟨rfl, he5, new_ne hp4 ne, vs, new_ne hq ne, hf, h4, ha⟩, eb, pb, qb⟩
            have B5 : Bag (upd H4 e (.tup [.ref p, .ref q2])) b := B4.same (new_same ne)
            have c5 : Chb b H (upd H4 e (.tup [.ref p, .ref q2])) := (((c1.trans c2).trans c3).trans c4).trans (Chb.new ne)
            have k5 : KT H1 (upd H4 e (.tup [.ref p, .ref q2])) := Chb.kt B1 (((c2.trans c3).trans c4).trans (Chb.new ne))
            have hl5 : upd H4 e (.tup [.ref p, .ref q2]) l = some (.lst (rfs L)) := new_ne ((c3.trans c4) _ _ lb hl2) ne
            generalize upd H4 e (.tup [.ref p, .ref q2]) = H5 at nr en5 B5 c5 k5 hl5 ⊢
            have hr6 : upd H5 r (.tup [.str z, .ref e]) r = some (.tup [.str z, .ref e]) := upd_same
            have hl6 := new_ne (u := .tup [.str z, .ref e]) hl5 nr
            have c6 : Chb b H (upd H5 r (.tup [.str z, .ref e])) := c5.trans (Chb.new nr)
            have B6 : Bag (upd H5 r (.tup [.str z, .ref e])) b := B5.same (new_same nr)
            have pl6 : PL b (upd H5 r (.tup [.str z, .ref e])) (L ++ [(r, z, .ref e)]) := (hL.kt (k5.trans (KT.new nr))).snoc hr6 (en5.kt (KT.new nr))
            generalize upd H5 r (.tup [.str z, .ref e]) = H6 at hl6 c6 B6 pl6 ⊢
            have few : L.length ≤ 7 := by
              have := sub.length_le
              rw [List.length_map, List.length_take] at this
              have := hN.few
              omega
            refine ⟨l, rfs L, .ref r, rfl, rfl, hl6, by rw [List.length_map, sizeLine_eq]; omega, ⟨_, rfl⟩, c6.put nl lb, (B6.set (O0.chb c6) lb ll).1, L ++ [(r, z, .ref e)], ?_, pl6.kt (KT.lst hl6), ?_⟩
            · have e7 : rfs (L ++ [(r, z, .ref e)]) = rfs L ++ [.ref r] := List.map_append
              rw [e7]
              exact upd_same
            · rw [et, List.map_append]
              exact sub.append (List.Sublist.refl _)
        · refine ⟨⟨_, rfl⟩, c1.trans c2, B2, L, c2 _ _ lb hl, hL.kt (Chb.kt B1 c2), ?_⟩
          rw [et]
          exact sub.trans (List.sublist_append_left _ _)
    · obtain ⟨⟨y, rfl⟩, c1, B1, L, hl, hL, sub⟩ := hP
      rw [List.length_map, List.take_of_length_le (Nat.le_refl _)] at sub
      have few : L.length ≤ 7 := by
        have := sub.length_le
        rw [List.length_map] at this
        have := hN.few
        omega
      refine ⟨_, rfl, _, rfl, b, l, rfs L, rfl, B1, hl, lb, by rw [List.length_map]; omega, fun H2 r ys c2 B2 nr hr pm rb => ?_⟩
      obtain ⟨L', pL, rfl⟩ := perm_map_inv pm L rfl
      have hL2 : PL b H2 L' := fun q hq => (hL.kt (Chb.kt B1 c2)) q (pL.mem_iff.mp hq)
      have nd : ((L'.map (·.2)).map (·.1)).Nodup := by
        rw [List.map_map]
        exact (pL.map _).nodup_iff.mpr (sub.nodup hN.nd)
      refine ⟨r, L'.map (·.1), kk (L'.map (·.2)), rfl, .inl (.inl (by rw [hr, List.map_map]; rfl)), pairs_dict hL2, fun d nd2 => ?_⟩
      obtain ⟨o2, hb2⟩ := B2.lst
      refine q _ d (L'.map (·.2)) ((c1.trans c2).trans (Chb.new nd2)) (B2.same (new_same nd2)) ⟨?_, (ne_of_none hb2 nd2).symm, nd, fun p hp => ?_⟩
      · rw [merge_nd _ [] (by simpa using kk_nd nd)]
        exact upd_same
      · obtain ⟨q, hq, rfl⟩ := List.mem_map.mp hp
        exact ⟨sub.subset ((pL.map _).mem_iff.mp (List.mem_map_of_mem hq)), (hL2 q hq).2.kt (KT.new nd2)⟩
end
end V9
/-! A dict with its keys ascending, in two ways. -/
namespace V9
open PySem PySem.Spec PyProof.Rows L2 TL
theorem val_kk (ks : List (PySem.Str × V)) (x : PySem.Str) : valV (kk ks) (Sum.inr x) = valV ks x := by
  induction ks with
  | nil => rfl
  | cons p ks ih =>
    by_cases e : p.1 = x
    · rw [valV_pos e]
      exact valV_pos (p := ((Sum.inr p.1 : L2.Key), p.2)) (by rw [e])
    · rw [valV_neg e, ← ih]
      exact valV_neg (p := ((Sum.inr p.1 : L2.Key), p.2)) (fun z => e (Sum.inr.inj z))
theorem val_mem {ks : List (PySem.Str × V)} (nd : (ks.map (·.1)).Nodup) {p : PySem.Str × V} (h : p ∈ ks) : valV ks p.1 = some p.2 := by
  induction ks with
  | nil => cases h
  | cons q ks ih =>
    rw [List.map_cons] at nd
    obtain ⟨n1, n2⟩ := List.nodup_cons.mp nd
    rcases List.mem_cons.mp h with e | e
    · rw [e]; exact valV_pos rfl
    · have : ¬ q.1 = p.1 := fun z => n1 (by rw [z]; exact List.mem_map_of_mem e)
      rw [valV_neg this]
      exact ih n2 e
theorem mem_val {ks : List (PySem.Str × V)} {x : PySem.Str} {v : V} (h : valV ks x = some v) : (x, v) ∈ ks := by
  induction ks with
  | nil => cases h
  | cons q ks ih =>
    by_cases e : q.1 = x
    · rw [valV_pos e] at h
      cases h
      rw [← e]; exact List.mem_cons_self
    · rw [valV_neg e] at h
      exact List.mem_cons_of_mem _ (ih h)
/-- the same pairs, keys ascending -/
structure AscD (ks ks' : List (PySem.Str × V)) : Prop where
  s : sortedS (ks'.map (·.1)) = true
  p : ks'.Perm ks
theorem AscD.one {ks k1 k2 : List (PySem.Str × V)} (nd : (ks.map (·.1)).Nodup) (a : AscD ks k1) (b : AscD ks k2) : k1 = k2 := by
  refine List.Perm.eq_of_pairwise (le := fun p q : PySem.Str × V => p.1.cps.toList ≤ q.1.cps.toList) (fun x y hx hy h1 h2 => ?_) ?_ ?_ (a.p.trans b.p.symm)
  · have e := TX.str_ext (List.le_antisymm h1 h2)
    have v1 := val_mem nd (a.p.mem_iff.mp hx)
    have v2 := val_mem nd (b.p.mem_iff.mp hy)
    rw [e, v2] at v1
    cases x; cases y
    simp at e v1
    rw [e, v1]
  · exact (List.pairwise_map (R := fun a b : PySem.Str => a.cps.toList ≤ b.cps.toList)).mp (TX.sorted_pair a.s)
  · exact (List.pairwise_map (R := fun a b : PySem.Str => a.cps.toList ≤ b.cps.toList)).mp (TX.sorted_pair b.s)
/-- the pairs of some keys -/
def prs (ks : List (PySem.Str × V)) (ys : List PySem.Str) : List (PySem.Str × V) := ys.map fun y => (y, (valV ks y).getD .non)
theorem prs_keys (ks : List (PySem.Str × V)) (ys : List PySem.Str) : (prs ks ys).map (·.1) = ys := by
  unfold prs
  rw [List.map_map]
  exact List.map_id ys
theorem prs_asc {ks : List (PySem.Str × V)} {ys : List PySem.Str} (nd : (ks.map (·.1)).Nodup) (pm : ys.Perm (ks.map (·.1))) (s : sortedS ys = true) : AscD ks (prs ks ys) := by
  refine ⟨by rw [prs_keys]; exact s, ?_⟩
  have h := pm.map fun y => (y, (valV ks y).getD V.non)
  have e : (ks.map (·.1)).map (fun y => (y, (valV ks y).getD V.non)) = ks := by
    rw [List.map_map]
    refine (List.map_congr_left fun p hp => ?_).trans (List.map_id ks)
    show (p.1, (valV ks p.1).getD V.non) = id p
    rw [val_mem nd hp]
    rfl
  rw [e] at h
  exact h
theorem val_some {ks : List (PySem.Str × V)} {x : PySem.Str} (h : x ∈ ks.map (·.1)) : ∃ v, valV ks x = some v := by
  cases e : valV ks x with
  | some v => exact ⟨v, rfl⟩
  | none => exact absurd h (valV_not e)
theorem kk_len (ks : List (PySem.Str × V)) : (kk ks).length = ks.length := List.length_map ..
theorem kk_snoc (ks : List (PySem.Str × V)) (x : PySem.Str) (v : V) : kk (ks ++ [(x, v)]) = kk ks ++ [(Sum.inr x, v)] := List.map_append
theorem take_fresh {α : Type} {ys : List α} (nd : ys.Nodup) {i : Nat} {z : α} (h : ys[i]? = some z) : z ∉ ys.take i := fun m => by
  obtain ⟨j, hj⟩ := List.mem_iff_getElem?.mp m
  rw [List.getElem?_take] at hj
  split at hj
  · rename_i lt
    obtain ⟨h1, e1⟩ := List.getElem?_eq_some_iff.mp h
    obtain ⟨h2, e2⟩ := List.getElem?_eq_some_iff.mp hj
    have : i = j := (List.getElem_inj nd).mp (e1.trans e2.symm)
    omega
  · cases hj
/-- a dict made of a list, item by item -/
theorem dc_list {K : PySem.W.Frag} {a : Addr} {xs : List V} {g : TG} {tt : TT} {tk tv : TE} {vs : List Nat} {σ : L2.St} {H1 : Hp} {D : Addr} {Qd : Hp → Prop} (Pv : Nat → Hp → Prop) (h0 : Pv 0 (upd H1 D (.dK []))) (hl : ∀ i H, i ≤ xs.length → Pv i H → SqL K H a xs)
    (hs : ∀ i x H, xs[i]? = some x → Pv i H → g x (wipe σ vs) H fun s2 H2 => wipe s2 vs = wipe σ vs ∧ tt s2 H2 fun b H3 =>
      if b = true then tk s2 H3 fun y H4 => tv s2 H4 fun z H5 => ∃ kvs k, y = kV k ∧ H5 D = some (.dK kvs) ∧ kvs.length < sizeLine ∧ Pv (i + 1) (upd H5 D (.dK (putK kvs k z))) else Pv (i + 1) H3) (hd : ∀ H, Pv xs.length H → Qd H) :
    ∃ W : Nat → Nat → Hp → Prop, (∃ m, W 0 m (upd H1 D (.dK []))) ∧ ∀ i m H, W i m H →
      ((Itl K a).stop i H ∧ Qd H) ∨ ((Itl K a).go i H ∧ ∃ Nx : Hp → Prop, (∀ H', Nx H' → ∃ m', m' < m ∧ W (i + 1) m' H') ∧ ∀ x H', (Itl K a).yld i H x H' → g x (wipe σ vs) H' fun s2 H2 => wipe s2 vs = wipe σ vs ∧ tt s2 H2 fun b H3 =>
        if b = true then tk s2 H3 fun y H4 => tv s2 H4 fun z H5 => ∃ kvs k, y = kV k ∧ H5 D = some (.dK kvs) ∧ kvs.length < sizeLine ∧ Nx (upd H5 D (.dK (putK kvs k z))) else Nx H3) := by
  refine ⟨fun i m H => (m = xs.length - i ∧ i ≤ xs.length) ∧ Pv i H, ⟨xs.length, ⟨rfl, Nat.zero_le _⟩, h0⟩, ?_⟩
  rintro i m H ⟨⟨rfl, hi⟩, p⟩
  have q := hl i H hi p
  rcases Nat.lt_or_ge i xs.length with lt | ge
  · refine .inr ⟨⟨xs, xs[i], q, List.getElem?_eq_getElem lt⟩, Pv (i + 1), fun H' p' => ⟨xs.length - (i + 1), by omega, ⟨rfl, lt⟩, p'⟩, fun x H' y => ?_⟩
    obtain ⟨rfl, y2⟩ := y
    have e := y2 xs q
    exact hs i x _ e p
  · have e : i = xs.length := Nat.le_antisymm hi ge
    subst e
    exact .inl ⟨⟨xs, q, Nat.le_refl _⟩, hd H p⟩
section
def spCopy : Sp := fun vs H Q _ => ∃ (d : Addr) (ks : List (PySem.Str × V)), vs = [.ref d] ∧ H d = some (.dK (kk ks)) ∧ (ks.map (·.1)).Nodup ∧ ks.length ≤ 40 ∧
  ∀ (H' : Hp) (p : Addr) (ks' : List (PySem.Str × V)), Same H H' → H p = none → H' p = some (.dK (kk ks')) → AscD ks ks' → Q (.ref p) H'
end
end V9
/-! The law's own dict, keys ascending. -/
namespace V9
open PySem PySem.Spec PyProof.Rows L2 TL
section
variable {P : Program} {w : World} {K : PySem.W.Frag} {mg : PySem.Str → Option Value} {base : Heap}
theorem pairs_dict0 {K : PySem.W.Frag} {H : Hp} {L : List Pr} (h : ∀ q ∈ L, H q.1 = some (.tup [.str q.2.1, q.2.2])) : Paired (fun p kv => SqT K H p [kV kv.1, kv.2]) (L.map (·.1)) (kk (L.map (·.2))) := by
  induction L with
  | nil => exact .nil
  | cons q L ih => exact .cons (.inl (.inl (h q List.mem_cons_self))) (ih fun r hr => h r (List.mem_cons_of_mem _ hr))
theorem ok_asc {f : Addr} {fd : FuncData} {k : Nat} (F : Fun K "_law_ascending_dict" "_law_ascending_dict" sAsc f fd) (mS : mg "sorted" = none) (mD : mg "dict" = none) : FnOk P w K mg base CX0 (k + 1) f fd ["found"] spCopy := by
  refine F.ok scAsc (fun vs H Q E h => ?_) (fun cdv A outer s H vs Q E hr h => ?_)
  · obtain ⟨d, ks, rfl, _⟩ := h
    rfl
  · obtain ⟨d, ks, rfl, hd, nd, hl, q⟩ := h
    refine ⟨_, pss_one (ps_ret (pe_callTy (call_dictP rfl) (by rfl) mD (by decide +kernel) (pa_cons (pe_lc (own := [("key", 1)]) (g := gName 1) rfl scAsc.nd (pi_list (pe_callB (call_sortedD rfl) (by rfl) mS (by decide +kernel) (pa_cons (pv 0) pa_nil))) (blkOk_by (N := ["found", "key"]) (sc := defScope sAsc) (by decide +kernel))
      (fun _ _ _ _ _ => pg_name (i := 1) scAsc.nd rfl (Or.inl rfl)) (fun _ _ _ _ _ => pts_nil) (fun _ _ _ _ _ => pe_tup (pa_cons (pv 1) (pa_cons (pe_dget (Nat.lt_of_le_of_lt (Nat.add_le_add_left (by decide) _) hr.units) (pv 0) (pv 1) (fun _ _ => rfl)) pa_nil)))) pa_nil))), ?_⟩
    refine ⟨_, rfl, d, kk ks, ks.map (·.1), rfl, .inl hd, kk_keys ks, by rw [List.length_map]; omega, fun ys p pm ss np => ⟨p, rfl, ⟨_, .inl (.inl upd_same)⟩, fun D nD => ?_⟩⟩
    have s1 : Same H (upd H p (.lst (ys.map V.str))) := new_same np
    have hp1 : upd H p (.lst (ys.map V.str)) p = some (.lst (ys.map V.str)) := upd_same
    generalize upd H p (.lst (ys.map V.str)) = H1 at s1 hp1 nD ⊢
    have hd1 := s1 _ _ hd
    have Dp : p ≠ D := ne_of_none hp1 nD
    have Dd : d ≠ D := ne_of_none hd1 nD
    have yn : ys.Nodup := pm.nodup_iff.mpr nd
    have yl : ys.length ≤ 40 := by rw [pm.length_eq, List.length_map]; exact hl
    refine lc_list (K := K) (a := p) (xs := ys.map V.str) (fun i Hc => (∃ L : List Pr, Hc D = some (.lst (rfs L)) ∧ (∀ q ∈ L, Hc q.1 = some (.tup [.str q.2.1, q.2.2])) ∧ L.map (·.2) = prs ks (ys.take i)) ∧ ∀ x o, x ≠ D → H1 x = some o → Hc x = some o)
      ⟨⟨[], upd_same, (fun q hq => by cases hq), rfl⟩, fun x o n e => by rw [upd_ne n]; exact e⟩ (fun i Hc _ hP => .inl (.inl (hP.2 _ _ Dp hp1))) (fun i x Hc hx hP => ?_) (fun Hc hP => ?_)
    · obtain ⟨⟨L, h1, hL, e0⟩, h2⟩ := hP
      rw [List.getElem?_map] at hx
      cases hz : ys[i]? with
      | none => rw [hz] at hx; cases hx
      | some z =>
        rw [hz] at hx
        cases hx
        obtain ⟨v, hv⟩ := val_some (pm.mem_iff.mp (List.mem_of_getElem? hz))
        have hdc := h2 _ _ Dd hd1
        refine ⟨rfl, _, rfl, _, rfl, _, rfl, d, v, rfl, ?_, by show 2 ≤ sizeLine; decide, fun r nr => ?_⟩
        · have := DGet.k (k := Sum.inr z) hdc
          rw [val_kk, hv] at this
          exact this
        · have hr1 : upd Hc r (.tup [.str z, v]) r = some (.tup [.str z, v]) := upd_same
          have h3 := new_ne (u := .tup [.str z, v]) h1 nr
          have h4 : ∀ q ∈ L ++ [(r, z, v)], upd Hc r (.tup [.str z, v]) q.1 = some (.tup [.str q.2.1, q.2.2]) := fun q hq => by
            rcases List.mem_append.mp hq with e | e
            · exact new_ne (hL q e) nr
            · rw [List.mem_singleton] at e
              rw [e]; exact hr1
          have h5 : ∀ x o, x ≠ D → H1 x = some o → upd Hc r (.tup [.str z, v]) x = some o := fun x o n e => new_ne (h2 x o n e) nr
          generalize upd Hc r (.tup [.str z, v]) = H3 at h3 h4 h5 ⊢
          have ll : L.length ≤ 40 := by
            have := congrArg List.length e0
            rw [List.length_map, prs, List.length_map, List.length_take] at this
            omega
          refine ⟨rfs L, h3, by rw [List.length_map, sizeLine_eq]; omega, ⟨L ++ [(r, z, v)], ?_, fun q hq => ?_, ?_⟩, fun x o n e => by rw [upd_ne n]; exact h5 x o n e⟩
          · have e7 : rfs (L ++ [(r, z, v)]) = rfs L ++ [.ref r] := List.map_append
            rw [e7]
            exact upd_same
          · rw [upd_ne (fun e => by have := h4 q hq; rw [e, h3] at this; cases this)]
            exact h4 q hq
          · have e1 : ys.take (i + 1) = ys.take i ++ [z] := by rw [List.take_add_one, hz]; rfl
            have e2 : prs ks (ys.take i ++ [z]) = prs ks (ys.take i) ++ [(z, (valV ks z).getD .non)] := List.map_append
            rw [e1, e2, List.map_append, e0, hv]
            rfl
    · obtain ⟨⟨L, h1, hL, e0⟩, h2⟩ := hP
      rw [List.length_map, List.take_of_length_le (Nat.le_refl _)] at e0
      have A1 := prs_asc nd pm ss
      rw [← e0] at A1
      have nd1 : ((L.map (·.2)).map (·.1)).Nodup := by rw [e0, prs_keys]; exact yn
      refine ⟨D, L.map (·.1), kk (L.map (·.2)), rfl, .inl (.inl (by rw [h1, List.map_map]; rfl)), pairs_dict0 hL, fun r nr => ?_⟩
      have same : Same H Hc := fun x o e => h2 x o (ne_of_none (s1 _ _ e) nD) (s1 _ _ e)
      refine q _ r (L.map (·.2)) (same.trans (new_same nr)) (same_no same nr) ?_ A1
      rw [merge_nd _ [] (by simpa using kk_nd nd1)]
      exact upd_same
end
end V9
/-! What is an integer, a version. -/
namespace V9
open PySem PySem.Spec PyProof.Rows L2
theorem same_none {H H' : Hp} {p : Addr} (s : Same H H') (n : H' p = none) : H p = none := by
  cases z : H p with
  | none => rfl
  | some o => rw [s p o z] at n; cases n
section
variable {X : Cx}
/-- a list == [] -/
theorem op_eqL0 (hu : X.A.units < cLine) : OpR X (compareOp .Eq) (fun x y H Q => ∃ (a b : Addr) (xs : List V), x = .ref a ∧ y = .ref b ∧ H a = some (.lst xs) ∧ H b = some (.lst []) ∧ Q (.bl xs.isEmpty) H) := by
  intro pins s σ H x y v u Q I rx ry h
  obtain ⟨a, b, xs, rfl, rfl, ha, hb, q⟩ := h
  cases (show v = Value.ref a from rx)
  cases (show u = Value.ref b from ry)
  obtain ⟨i1, r1, p1, _⟩ := I.list (.inl (.inl ha))
  obtain ⟨i2, r2, p2, _⟩ := I.list (.inl (.inl hb))
  cases r2
  cases r1 with
  | nil => exact SeqAt.eq_listAt (e := fun _ => true) p1.isList p2.isList rfl hu (fun j _ h2 => absurd h2 (Nat.not_lt_zero j)) ⟨.bl true, H, I, rfl, q⟩
  | cons c d => exact SeqAt.eq_list_lengthsAt p1.isList p2.isList (by simp) hu ⟨.bl false, H, I, rfl, q⟩
end
def okP : V → Bool | .int i => decide (0 ≤ i) && decide (i < 1000000) | _ => false
/-- whether it is a VERSION -/
def isV (H : Hp) : V → Bool | .ref a => (match H a with | some (.tup xs) => decide (xs.length = 3) && xs.all okP | _ => false) | _ => false
theorem isV_tup {H : Hp} {a : Addr} {xs : List V} (h : H a = some (.tup xs)) : isV H (.ref a) = (decide (xs.length = 3) && xs.all okP) := by
  show (match H a with | some (.tup xs) => decide (xs.length = 3) && xs.all okP | _ => false) = _
  rw [h]
theorem isV_not {H : Hp} {v : V} (h : ∀ a xs, v = .ref a → H a ≠ some (.tup xs)) : isV H v = false := by
  cases v with
  | ref a =>
    show (match H a with | some (.tup xs) => decide (xs.length = 3) && xs.all okP | _ => false) = false
    split
    · rename_i xs e
      exact absurd e (h a xs rfl)
    · rfl
  | _ => rfl
abbrev sInteger : Stmt := topS 30
theorem scInteger : FnScope ["thing"] ["thing"] (defScope sInteger) := ⟨rfl, rfl, rfl, by decide +kernel, rfl, by decide +kernel, by decide +kernel⟩
abbrev sLIsVer : Stmt := topS 37
theorem scLIsVer : FnScope ["thing", "part"] ["thing"] (defScope sLIsVer) := ⟨rfl, rfl, rfl, by decide +kernel, rfl, by decide +kernel, by decide +kernel⟩
section
variable {P : Program} {w : World} {K : PySem.W.Frag} {mg : PySem.Str → Option Value} {base : Heap}
def spIntK : Sp := fun vs H Q _ => ∃ v : V, vs = [v] ∧ Kn H v ∧ Q (.bl (isI v)) H
theorem ok_integerK {f : Addr} {fd : FuncData} {k : Nat} (F : Fun K "_law_integer" "_law_integer" sInteger f fd) (mS : mg "isinstance" = none) (mI : mg "int" = none) (mB : mg "bool" = none) : FnOk P w K mg base CX0 (k + 1) f fd ["thing"] spIntK := by
  refine F.ok scInteger (fun vs H Q E h => ?_) (fun cdv A outer s H vs Q E hr h => ?_)
  · obtain ⟨v, rfl, _⟩ := h
    rfl
  · obtain ⟨v, rfl, l, q⟩ := h
    refine ⟨_, pss_one (ps_ret (pe_and (pe_callB call_isi (by rfl) mS (by decide +kernel) (pa_cons (pv 0) (pa_cons (pe_bltn (v := .ty "int") (u := .type "int") (by rfl) mI (by decide +kernel) rfl) pa_nil)))
      (pe_one (pe_not (pe_callB call_isi (by rfl) mS (by decide +kernel) (pa_cons (pv 0) (pa_cons (pe_bltn (v := .ty "bool") (u := .type "bool") (by rfl) mB (by decide +kernel) rfl) pa_nil))))))), ?_⟩
    obtain ⟨T, ty, t1, t2, _⟩ := l.kind.ty K
    refine ⟨v, rfl, v, .ty "int", _, _, _, rfl, .ty "int", ty, t1, _, rfl, ite2 (fun e => ?_) (fun e => ?_)⟩
    · refine ⟨v, rfl, v, .ty "bool", _, _, _, rfl, .ty "bool", ty, t2, _, rfl, ?_⟩
      cases v <;> first | exact q | (simp [isI, isB] at e)
    · cases v <;> first | exact q | (simp [isI, isB] at e)
def spIsV : Sp := fun vs H Q _ => ∃ v : V, vs = [v] ∧ Kn H v ∧ (∀ a xs, v = .ref a → H a = some (.tup xs) → xs.length ≤ 1000000) ∧ ∀ H', Same H H' → Q (.bl (isV H v)) H'
theorem ok_lisver {f fI : Addr} {fd fdI : FuncData} {k : Nat} (F : Fun K "_law_is_version" "_law_is_version" sLIsVer f fd) (FI : Fun K "_law_integer" "_law_integer" sInteger fI fdI) (bI : Binds K fdI ["thing"] []) (gI : mg "_law_integer" = some (.ref fI))
    (mS : mg "isinstance" = none) (mI : mg "int" = none) (mB : mg "bool" = none) (mT : mg "tuple" = none) (mL : mg "len" = none) : FnOk P w K mg base CX0 (k + 2) f fd ["thing"] spIsV := by
  have GI : FnOk P w K mg base CX0 (k + 1) fI fdI ["thing"] spIntK := ok_integerK FI mS mI mB
  refine F.ok scLIsVer (fun vs H Q E h => ?_) (fun cdv A outer s H vs Q E hr h => ?_)
  · obtain ⟨v, rfl, _⟩ := h
    rfl
  · obtain ⟨v, rfl, l, hz, q⟩ := h
    refine ⟨_, pss_cons (ps_if (PW.pt (pw_or (pt_not (pt_val (pe_callB call_isi (by rfl) mS (by decide +kernel) (pa_cons (pv 0) (pa_cons (pe_bltn (v := .ty "tuple") (u := .type "tuple") (by rfl) mT (by decide +kernel) rfl) pa_nil)))))
          (pw_or1 (pt_cmpR op_ne (pe_callB call_len_seq (by rfl) mL PySem.boot_len (pa_cons (pv 0) pa_nil)) pe_int (nomark _))))) (pss_one (ps_ret pe_bl)) pss_nil)
      (pss_one (ps_ret (pe_cmpR (op_eqL0 hr.units0) (pe_lc (own := [("part", 1)]) (g := gName 1) rfl scLIsVer.nd (pi_tup (pv 0)) (blkOk_by (N := ["thing", "part"]) (sc := defScope sLIsVer) (by decide +kernel))
        (fun _ _ _ _ _ => pg_name (i := 1) scLIsVer.nd rfl (Or.inl rfl))
        (fun _ _ _ _ _ => pts_one (PW.pt (pw_or (pt_not (pt_val (pe_call GI hr (by rfl) gI FI.kp bI .nil pass0 (pa_cons (pv 1) pa_nil)))) (pw_or1 (pt_not (pt_chain op_le op_lt pe_int (pv 1) (pe_op op_pow pe_int pe_int)))))))
        (fun _ _ _ _ _ => pv 1)) (pe_lst pa_nil) (nomark _)))), ?_⟩
    obtain ⟨T, ty, _, _, _, c, t4, t5, t6⟩ := l.kind.ty K
    refine ⟨v, rfl, v, .ty "tuple", _, _, _, rfl, .ty "tuple", ty, t4, c, rfl, ?_⟩
    cases c with
    | false =>
      have e := isV_not (t6 rfl)
      have q' := q H (Same.refl _)
      rw [e] at q'
      exact q'
    | true =>
      obtain ⟨a, xs, rfl, ha, its⟩ := t5 rfl
      have hlen := hz a xs rfl ha
      rw [isV_tup ha] at q
      refine ⟨_, rfl, a, xs, rfl, .inr (.inl (.inl ha)), rfl, _, rfl, ite2 (fun e => ?_) (fun e => ?_)⟩
      · have n3 : ¬ xs.length = 3 := fun z => by simp [z] at e
        rw [decide_eq_false n3] at q
        exact q H (Same.refl _)
      · have n3 : xs.length = 3 := by
          have e' : V.int (xs.length : Nat) = V.int 3 := by simpa using e
          injection e' with e'
          omega
        rw [decide_eq_true n3, Bool.true_and] at q
        refine ⟨_, rfl, a, rfl, ⟨xs, .inl (.inl ha)⟩, fun Dl nD => ?_⟩
        refine lc_it (walk_tup (xs := xs)) (fun j Hc => Same H Hc ∧ ∃ acc, Hc Dl = some (.lst acc) ∧ acc.length ≤ j ∧ acc.isEmpty = (xs.take j).all okP) ⟨new_same nD, [], upd_same, Nat.le_refl _, by rw [List.take_zero]; rfl⟩ (fun j Hc _ hP => .inl (.inl (hP.1 _ _ ha))) ?_ (fun Hc hP => ?_)
        · rintro j x Hc H' hj ⟨c2, acc, c1, c3, c4⟩ ⟨rfl, hx⟩
          have kx : Kn H' x := (its x (List.mem_of_getElem? hx)).same c2
          have yes : okP x = true → Same H H' ∧ ∃ acc, H' Dl = some (.lst acc) ∧ acc.length ≤ j + 1 ∧ acc.isEmpty = (xs.take (j + 1)).all okP := fun e => by
            refine ⟨c2, acc, c1, by omega, ?_⟩
            rw [List.take_add_one, hx, List.all_append, c4]
            simp [e]
          have no : okP x = false → ∃ acc, H' Dl = some (.lst acc) ∧ acc.length < sizeLine ∧ Same H (upd H' Dl (.lst (acc ++ [x]))) ∧ ∃ ac, upd H' Dl (.lst (acc ++ [x])) Dl = some (.lst ac) ∧ ac.length ≤ j + 1 ∧ ac.isEmpty = (xs.take (j + 1)).all okP := fun e => by
            refine ⟨acc, c1, by rw [sizeLine_eq]; omega, fun y o h => ?_, acc ++ [x], upd_same, by rw [List.length_append]; show acc.length + 1 ≤ _; omega, ?_⟩
            · rw [upd_ne (ne_of_none h nD)]
              exact c2 y o h
            · rw [List.take_add_one, hx, List.all_append]
              simp [e]
          refine ⟨rfl, x, rfl, x, rfl, kx, _, rfl, ite2 (fun e1 => ?_) (fun e1 => ?_)⟩
          · exact ⟨x, rfl, no (by cases x <;> first | rfl | (simp [isI] at e1))⟩
          · obtain ⟨i, rfl⟩ : ∃ i, x = .int i := by cases x <;> first | exact ⟨_, rfl⟩ | (simp [isI] at e1)
            refine ⟨.int i, rfl, 0, i, rfl, rfl, _, rfl, ite2 (fun e2 => ?_) (fun e2 => ?_)⟩
            · have e2' := of_decide_eq_true e2
              have e6 : (10 : Int) ^ (6 : Int).toNat = 1000000 := by decide
              refine ⟨10, 6, rfl, rfl, ⟨by decide, by decide, by decide⟩, i, _, rfl, rfl, _, rfl, ?_⟩
              rw [e6]
              by_cases h9 : i < 1000000
              · rw [decide_eq_true h9]
                exact yes (by show (decide (0 ≤ i) && decide (i < 1000000)) = true; rw [decide_eq_true e2', decide_eq_true h9]; rfl)
              · rw [decide_eq_false h9]
                exact ⟨.int i, rfl, no (by show (decide (0 ≤ i) && decide (i < 1000000)) = false; rw [decide_eq_false h9, Bool.and_false])⟩
            · have e2' : ¬ 0 ≤ i := fun z => e2 (decide_eq_true z)
              exact ⟨_, rfl, .int i, rfl, no (by show (decide (0 ≤ i) && decide (i < 1000000)) = false; rw [decide_eq_false e2', Bool.false_and])⟩
        · obtain ⟨c2, acc, c1, c3, c4⟩ := hP
          rw [List.take_length] at c4
          refine ⟨by show 0 ≤ sizeLine; exact Nat.zero_le _, fun r nr => ⟨Dl, r, acc, rfl, rfl, new_ne c1 nr, upd_same, ?_⟩⟩
          rw [c4]
          exact q _ (c2.trans (new_same nr))
end
end V9
/-! What is a name. -/
namespace V9
open PySem PySem.Spec PyProof.Rows L2
def Lt : PySem.Str := "abcdefghijklmnopqrstuvwxyz"
def Nz : PySem.Str := "abcdefghijklmnopqrstuvwxyz0123456789-"
def headIn (x : PySem.Str) : Bool := match x.cps.toList with | c :: _ => decide (c ∈ Lt.cps.toList) | [] => false
def allIn (z : PySem.Str) (l : List Nat) : Bool := l.all fun c => decide (c ∈ z.cps.toList)
/-- whether it is a NAME -/
def isN : V → Bool | .str x => decide (1 ≤ x.length) && decide (x.length ≤ 20) && (headIn x && allIn Nz x.cps.toList) | _ => false
abbrev sIsName : Stmt := topS 9
theorem scIsName : FnScope ["thing", "sign"] ["thing"] (defScope sIsName) := ⟨rfl, rfl, rfl, by decide +kernel, rfl, by decide +kernel, by decide +kernel⟩
theorem head_at {x : PySem.Str} (h : 1 ≤ x.length) : ∃ c, atI x.cps.toList 0 = some c ∧ headIn x = decide (c ∈ Lt.cps.toList) := by
  unfold headIn
  have hl : 1 ≤ x.cps.toList.length := h
  cases e : x.cps.toList with
  | nil => rw [e] at hl; simp at hl
  | cons c l => exact ⟨c, atI_nat (j := 0) rfl, rfl⟩
section
variable {P : Program} {w : World} {K : PySem.W.Frag} {mg : PySem.Str → Option Value} {base : Heap}
def spIsN : Sp := fun vs H Q _ => ∃ x : PySem.Str, vs = [.str x] ∧ x.length ≤ 1000000 ∧ ∀ H', Same H H' → Q (.bl (isN (.str x))) H'
theorem ok_isname {f : Addr} {fd : FuncData} {k : Nat} (F : Fun K "is_name" "is_name" sIsName f fd) {t1 t2 t3 : Tok} (gL : mg "LONGEST_NAME" = some (.int 20 t1)) (gA : mg "LETTERS" = some (.str Lt t2)) (gN : mg "NAME_SIGNS" = some (.str Nz t3))
    (mS : mg "isinstance" = none) (mT : mg "str" = none) (mL : mg "len" = none) (mA : mg "all" = none) : FnOk P w K mg base CX0 (k + 1) f fd ["thing"] spIsN := by
  refine F.ok scIsName (fun vs H Q E h => ?_) (fun cdv A outer s H vs Q E hr h => ?_)
  · obtain ⟨x, rfl, _⟩ := h
    rfl
  · obtain ⟨x, rfl, hx, q⟩ := h
    refine ⟨_, pss_cons (ps_if (PW.pt (pw_or (pt_not (pt_val (pe_callB call_isi (by rfl) mS (by decide +kernel) (pa_cons (pv 0) (pa_cons (pe_bltn (v := .ty "str") (u := .type "str") (by rfl) mT (by decide +kernel) rfl) pa_nil)))))
          (pw_or1 (pt_not (pt_chain op_le op_le pe_int (pe_callB call_len_str (by rfl) mL PySem.boot_len (pa_cons (pv 0) pa_nil)) (pe_glob (v := .int 20) (by rfl) gL ⟨_, rfl⟩)))))) (pss_one (ps_ret pe_bl)) pss_nil)
      (pss_one (ps_ret (pe_and (pe_cmpR op_in_sign (pe_ix ix_str (pv 0) pe_int (fun _ _ => rfl)) (pe_glob (v := .str Lt) (by rfl) gA ⟨_, rfl⟩) (by rfl))
        (pe_one (pe_callB (cr_all rfl) (by rfl) mA (by decide +kernel) (pa_cons (pe_lc (own := [("sign", 1)]) (g := gName 1) rfl scIsName.nd (pi_str (pv 0)) (blkOk_by (N := ["thing", "sign"]) (sc := defScope sIsName) (by decide +kernel))
          (fun _ _ _ _ _ => pg_name (i := 1) scIsName.nd rfl (Or.inl rfl)) (fun _ _ _ _ _ => pts_nil)
          (fun _ _ _ _ _ => pe_cmpR op_in_sign (pv 1) (pe_glob (v := .str Nz) (by rfl) gN ⟨_, rfl⟩) (by rfl))) pa_nil)))))), ?_⟩
    obtain ⟨_, _, t3, _⟩ := kits K "str" (by decide)
    refine ⟨_, rfl, .str x, .ty "str", _, _, _, rfl, .ty "str", .base (.str x), t3, _, rfl, ite2 (fun e => ?_) (fun e => ?_)⟩
    · exact absurd e (by decide)
    · have hk : True := trivial
      cases hk with
      | intro =>
        have hz : x.length ≤ sizeLine := by rw [sizeLine_eq]; omega
        refine ⟨.str x, rfl, x, rfl, hz, 1, (x.length : Nat), rfl, rfl, _, rfl, ite2 (fun e1 => ?_) (fun e1 => ?_)⟩
        · have h1 : 1 ≤ x.length := by have := of_decide_eq_true e1; omega
          refine ⟨(x.length : Nat), 20, rfl, rfl, _, rfl, ?_⟩
          by_cases h2 : x.length ≤ 20
          · rw [decide_eq_true (show ((x.length : Nat) : Int) ≤ 20 by omega)]
            obtain ⟨c, hc0, hhd⟩ := head_at h1
            have qq : ∀ H', Same H H' → Q (.bl (decide (c ∈ Lt.cps.toList) && allIn Nz x.cps.toList)) H' := fun H' s => by
              have z := q H' s
              have e0 : isN (.str x) = (decide (c ∈ Lt.cps.toList) && allIn Nz x.cps.toList) := by
                show (decide (1 ≤ x.length) && decide (x.length ≤ 20) && (headIn x && allIn Nz x.cps.toList)) = _
                rw [decide_eq_true h1, decide_eq_true h2, hhd]
                rfl
              rw [e0] at z
              exact z
            refine ⟨.str x, rfl, x, 0, c, rfl, rfl, hz, hc0, c, Lt, rfl, rfl, _, rfl, ite2 (fun e3 => ?_) (fun e3 => ?_)⟩
            · rw [e3] at qq
              refine ⟨.str x, rfl, x, rfl, fun Dl nD => ?_⟩
              refine lc_it (walk_str (z := x)) (fun j Hc => Hc Dl = some (.lst ((x.cps.toList.take j).map fun c => .bl (decide (c ∈ Nz.cps.toList)))) ∧ Same H Hc) ⟨by rw [List.take_zero]; exact upd_same, new_same nD⟩ (fun j Hc _ hP => trivial) ?_ (fun Hc hP => ?_)
              · rintro j v Hc H' hj ⟨c1, c2⟩ ⟨rfl, c, hx, rfl⟩
                have hx' : x.cps.toList[j]? = some c := by rw [Array.getElem?_toList]; exact hx
                refine ⟨rfl, .str ⟨#[c]⟩, rfl, c, Nz, rfl, rfl, _, c1, by rw [List.length_map, List.length_take, sizeLine_eq]; have : x.cps.size = x.length := rfl; omega, ?_, fun y o h => ?_⟩
                · rw [upd_same, List.take_add_one, hx', List.map_append]
                  rfl
                · rw [upd_ne (ne_of_none h nD)]
                  exact c2 y o h
              · obtain ⟨c1, c2⟩ := hP
                have e9 : x.cps.toList.take x.cps.size = x.cps.toList := List.take_of_length_le (by simp)
                rw [e9] at c1
                refine ⟨Dl, x.cps.toList.map fun c => decide (c ∈ Nz.cps.toList), rfl, .inl (.inl (by rw [c1, List.map_map]; rfl)), ?_⟩
                rw [List.all_map]
                exact qq Hc c2
            · have e4 : decide (c ∈ Lt.cps.toList) = false := by simpa using e3
              rw [e4] at qq
              exact qq H (Same.refl _)
          · rw [decide_eq_false (show ¬ ((x.length : Nat) : Int) ≤ 20 by omega)]
            have z := q H (Same.refl _)
            have e0 : isN (.str x) = false := by
              show (decide (1 ≤ x.length) && decide (x.length ≤ 20) && (headIn x && allIn Nz x.cps.toList)) = _
              rw [decide_eq_false h2, Bool.and_false]
              rfl
            rw [e0] at z
            exact z
        · have h1 : ¬ 1 ≤ x.length := fun z => e1 (decide_eq_true (by omega))
          have z := q H (Same.refl _)
          have e0 : isN (.str x) = false := by
            show (decide (1 ≤ x.length) && decide (x.length ≤ 20) && (headIn x && allIn Nz x.cps.toList)) = _
            rw [decide_eq_false h1]
            rfl
          rw [e0] at z
          exact ⟨_, rfl, z⟩
end
end V9
/-! Texts of versions: what they show. -/
namespace V9
open PySem PySem.Spec PyProof.Rows L2 TL
/-- None, or a new tuple of these numbers -/
def OV (H : Hp) (v : V) : Option (List Int) → Prop | none => v = .non | some l => ∃ a, v = .ref a ∧ H a = some (.tup (l.map V.int))
theorem OV.same {H H' : Hp} {v : V} {o : Option (List Int)} (h : OV H v o) (s : Same H H') : OV H' v o := by
  cases o with
  | none => exact h
  | some l => obtain ⟨a, e, z⟩ := h; exact ⟨a, e, s _ _ z⟩
theorem Vs.at_ {ns : List Int} (h : Vs ns) {k : Nat} (hk : k < 3) : atI (ns.map V.int) (k : Int) = some (.int (ns.getD k 0)) := by
  refine atI_nat ?_
  have : k < ns.length := by rw [h.1]; exact hk
  rw [List.getElem?_map, List.getElem?_eq_getElem this, List.getD_eq_getElem?_getD, List.getElem?_eq_getElem this]
  rfl
def Dot : PySem.Str := "."
def Fg : PySem.Str := "0123456789"
theorem fg_mem {c : Nat} (h : c ∈ Fg.cps.toList) : 48 ≤ c ∧ c ≤ 57 := by
  have e : Fg.cps.toList = [48, 49, 50, 51, 52, 53, 54, 55, 56, 57] := by decide +kernel
  rw [e] at h
  simp only [List.mem_cons, List.not_mem_nil, or_false] at h
  omega
theorem mem_fg {c : Nat} (h : 48 ≤ c ∧ c ≤ 57) : c ∈ Fg.cps.toList := by
  have e : Fg.cps.toList = [48, 49, 50, 51, 52, 53, 54, 55, 56, 57] := by decide +kernel
  rw [e]
  simp only [List.mem_cons, List.not_mem_nil, or_false]
  omega
/-- the first sign is no nought -/
def headOk (w : PySem.Str) : Bool := match w.cps.toList with | c :: _ => !decide (c = 48) | [] => true
/-- a word shows a number -/
def shownB (w : PySem.Str) : Bool := decide (1 ≤ w.length) && decide (w.length ≤ 6) && (allIn Fg w.cps.toList && (decide (V.str w = V.str "0") || headOk w))
def val (w : PySem.Str) : Int := ((intText? w).getD 0)
def readV (x : PySem.Str) : Option (List Int) := if (Txt.split x Dot).length = 3 ∧ (Txt.split x Dot).all shownB = true then some ((Txt.split x Dot).map val) else none
theorem digits_val {w : PySem.Str} (h1 : 1 ≤ w.length) (h6 : w.length ≤ 6) (ha : allIn Fg w.cps.toList = true) : ∃ n : Nat, intText? w = some (n : Int) ∧ n < 1000000 := by
  have hd : NumText.AllDigits w.cps.toList := fun c hc => fg_mem (of_decide_eq_true (List.all_eq_true.mp ha c hc))
  have hne : w.cps.toList ≠ [] := fun e => by
    have : w.length = w.cps.toList.length := by simp [PySem.Str.length]
    rw [this, e] at h1
    simp at h1
  refine ⟨_, intText_digits hd hne (by omega), ?_⟩
  have hl : w.cps.toList.length ≤ 6 := by simpa [PySem.Str.length] using h6
  have fold : ∀ (l : List Nat) (a : Nat), NumText.AllDigits l → l.foldl (fun acc c => acc * 10 + (c - 48)) a < (a + 1) * 10 ^ l.length := by
    intro l
    induction l with
    | nil => intro a _; simp
    | cons c l ih =>
      intro a h
      have hc := h.head
      have z := ih (a * 10 + (c - 48)) h.tail
      rw [List.foldl_cons, List.length_cons, Nat.pow_succ]
      have e1 : a * 10 + (c - 48) + 1 ≤ (a + 1) * 10 := by omega
      have e2 : (a * 10 + (c - 48) + 1) * 10 ^ l.length ≤ (a + 1) * 10 * 10 ^ l.length := Nat.mul_le_mul_right _ e1
      have e3 : (a + 1) * 10 * 10 ^ l.length = (a + 1) * (10 ^ l.length * 10) := by rw [Nat.mul_assoc, Nat.mul_comm 10]
      omega
  have z := fold w.cps.toList 0 hd
  have p6 : (10 : Nat) ^ w.cps.toList.length ≤ 10 ^ 6 := Nat.pow_le_pow_right (by decide) hl
  unfold NumText.digitsVal
  omega
theorem shown_val {w : PySem.Str} (h : shownB w = true) : ∃ n : Nat, intText? w = some (n : Int) ∧ n < 1000000 ∧ w.length ≤ 6 := by
  unfold shownB at h
  simp only [Bool.and_eq_true, decide_eq_true_eq] at h
  obtain ⟨n, h1, h2⟩ := digits_val h.1.1 h.1.2 h.2.1
  exact ⟨n, h1, h2, h.1.2⟩
/-- pieces are not longer -/
theorem spl_len (S : List Nat) : ∀ (l : List Nat) (k : Nat) (acc : List Nat), ∀ p ∈ spl S k acc l, p.length ≤ acc.length + l.length := by
  intro l
  induction l with
  | nil =>
    intro k acc p hp
    rw [spl_nil, List.mem_singleton] at hp
    rw [hp]
    exact Nat.le_add_right _ _
  | cons c r ih =>
    intro k acc p hp
    rw [List.length_cons]
    cases k with
    | zero =>
      by_cases h : pre S (c :: r) = true
      · rw [spl_hit h] at hp
        rcases List.mem_cons.mp hp with e | e
        · rw [e]; omega
        · have := ih _ _ p e
          simp only [List.length_nil] at this
          omega
      · rw [spl_miss (by simpa using h)] at hp
        have := ih _ _ p hp
        rw [List.length_append, List.length_singleton] at this
        omega
    | succ k =>
      have := ih k acc p hp
      omega
theorem tl_dot : tl Dot = [46] := by decide +kernel
theorem split_eq (x : PySem.Str) : (Txt.split x Dot).map tl = spl [46] 0 [] (tl x) := by
  rw [split_spl x Dot (by rw [tl_dot]; simp) (kind_ok (by decide +kernel)), tl_dot]
theorem split_len {x w : PySem.Str} (h : w ∈ Txt.split x Dot) : w.length ≤ x.length := by
  have h1 : tl w ∈ (Txt.split x Dot).map tl := List.mem_map_of_mem h
  rw [split_eq] at h1
  have := spl_len _ _ _ _ _ h1
  rw [len_tl, len_tl]
  simpa using this
theorem spl_many (S : List Nat) : ∀ (l : List Nat) (k : Nat) (acc : List Nat), (spl S k acc l).length ≤ l.length + 1 := by
  intro l
  induction l with
  | nil => intro k acc; rw [spl_nil]; exact Nat.le_refl _
  | cons c r ih =>
    intro k acc
    rw [List.length_cons]
    cases k with
    | zero =>
      by_cases h : pre S (c :: r) = true
      · rw [spl_hit h, List.length_cons]
        have := ih (S.length - 1) []
        omega
      · rw [spl_miss (by simpa using h)]
        have := ih 0 (acc ++ [c])
        omega
    | succ k =>
      have := ih k acc
      show (spl S k acc r).length ≤ _
      omega
theorem split_many (x : PySem.Str) : (Txt.split x Dot).length ≤ x.length + 1 := by
  have h := congrArg List.length (split_eq x)
  rw [List.length_map] at h
  rw [h, len_tl]
  exact spl_many _ _ _ _
/-- a version as it is shown -/
def num (n : Int) : PySem.Str := PySem.Str.ofString (toString n)
def said (ns : List Int) : PySem.Str := Txt.join Dot (ns.map num)
theorem num_ok {n : Int} (h : 0 ≤ n ∧ n < 1000000) : shownB (num n) = true ∧ val (num n) = n ∧ (num n).length ≤ 6 ∧ (46 : Nat) ∉ tl (num n) := by
  obtain ⟨m, rfl⟩ : ∃ m : Nat, n = (m : Int) := ⟨n.toNat, by omega⟩
  have hm : m < 10 ^ 6 := by omega
  have et : tl (num (m : Int)) = numL m := tl_num m
  have hl : (num (m : Int)).length ≤ 6 := by rw [len_tl, et]; exact numL_len (by decide) hm
  have h1 : 1 ≤ (num (m : Int)).length := by
    rw [len_tl, et]
    exact List.length_pos_iff.mpr (numL_ne m)
  have ha : allIn Fg (num (m : Int)).cps.toList = true := List.all_eq_true.mpr fun c hc => decide_eq_true (mem_fg (numL_digits m c (by rw [← et]; exact hc)))
  have hi : intText? (num (m : Int)) = some (m : Int) := int_num (by rw [← et, ← len_tl]; omega)
  refine ⟨?_, ?_, hl, by rw [et]; exact numL_free (.inl (by decide))⟩
  · unfold shownB
    rw [decide_eq_true h1, decide_eq_true hl, ha]
    by_cases z : m = 0
    · subst z
      rfl
    · have : headOk (num (m : Int)) = true := by
        unfold headOk
        have et' : (num (m : Int)).cps.toList = numL m := et
        rw [et']
        have key : ∀ m : Nat, m ≠ 0 → (numL m).head? ≠ some 48 := by
          intro m
          induction m using Nat.strongRecOn with
          | _ m ih =>
            intro hm
            by_cases h : m < 10
            · rw [numL_lt h]
              simp
              omega
            · rw [numL_step (by omega)]
              have := ih (m / 10) (by omega) (by omega)
              have ne := numL_ne (m / 10)
              cases e : numL (m / 10) with
              | nil => exact absurd e ne
              | cons c r => rw [e] at this; simpa using this
        have k := key m z
        cases e : numL m with
        | nil => rfl
        | cons c r =>
          rw [e] at k
          simp only [List.head?_cons, ne_eq, Option.some.injEq] at k
          simp [k]
      rw [this]
      simp
  · unfold val
    rw [hi]
    rfl
theorem read_said {ns : List Int} (h : Vs ns) : readV (said ns) = some ns := by
  have hp : ∀ p ∈ ns.map num, (46 : Nat) ∉ tl p := fun p hp => by
    obtain ⟨n, hn, rfl⟩ := List.mem_map.mp hp
    exact (num_ok (h.2 n hn)).2.2.2
  have hne : ns.map num ≠ [] := fun e => by
    have := congrArg List.length e
    rw [List.length_map, h.1] at this
    simp at this
  have e : Txt.split (said ns) Dot = ns.map num := split_join tl_dot (by decide +kernel) hne hp
  unfold readV
  rw [e, if_pos ⟨by rw [List.length_map]; exact h.1, List.all_eq_true.mpr fun p hp => by
    obtain ⟨n, hn, rfl⟩ := List.mem_map.mp hp
    exact (num_ok (h.2 n hn)).1⟩, List.map_map]
  congr 1
  have : ∀ l : List Int, (∀ n ∈ l, 0 ≤ n ∧ n < 1000000) → l.map (val ∘ num) = l := by
    intro l
    induction l with
    | nil => intro _; rfl
    | cons n l ih =>
      intro hl
      rw [List.map_cons, ih fun m hm => hl m (List.mem_cons_of_mem _ hm)]
      show val (num n) :: l = _
      rw [(num_ok (hl n List.mem_cons_self)).2.1]
  exact this ns h.2
theorem read_vs {x : PySem.Str} {ns : List Int} (h : readV x = some ns) : Vs ns := by
  unfold readV at h
  split at h
  · rename_i z
    cases h
    refine ⟨by rw [List.length_map]; exact z.1, fun n hn => ?_⟩
    obtain ⟨w, hw, rfl⟩ := List.mem_map.mp hn
    obtain ⟨m, e, hm, _⟩ := shown_val (List.all_eq_true.mp z.2 w hw)
    unfold val
    rw [e]
    show 0 ≤ (m : Int) ∧ (m : Int) < 1000000
    omega
  · cases h
end V9
/-! Texts of versions: shown, read. -/
namespace V9
open PySem PySem.Spec PyProof.Rows L2 TL
abbrev sShow : Stmt := topS 10
abbrev sSaid : Stmt := topS 35
abbrev sShown : Stmt := topS 11
abbrev sTold : Stmt := topS 12
theorem scShow : FnScope ["version", "number"] ["version"] (defScope sShow) := ⟨rfl, rfl, rfl, by decide +kernel, rfl, by decide +kernel, by decide +kernel⟩
theorem scSaid : FnScope ["version", "part"] ["version"] (defScope sSaid) := ⟨rfl, rfl, rfl, by decide +kernel, rfl, by decide +kernel, by decide +kernel⟩
theorem scShown : FnScope ["word", "sign"] ["word"] (defScope sShown) := ⟨rfl, rfl, rfl, by decide +kernel, rfl, by decide +kernel, by decide +kernel⟩
theorem scTold : FnScope ["text", "words", "word"] ["text"] (defScope sTold) := ⟨rfl, rfl, rfl, by decide +kernel, rfl, by decide +kernel, by decide +kernel⟩
section
variable {P : Program} {w : World} {K : PySem.W.Frag} {mg : PySem.Str → Option Value} {base : Heap}
def spSaid : Sp := fun vs H Q _ => ∃ p ns, vs = [.ref p] ∧ H p = some (.tup (ns.map V.int)) ∧ Vs ns ∧ ∀ H', Same H H' → Q (.str (said ns)) H'
theorem join_fit {ns : List Int} (h : Vs ns) : ((ns.map num).map (·.length)).sum + (ns.map num).length * Dot.length ≤ 16777216 := by
  obtain ⟨l, k⟩ := h
  obtain ⟨a, b, c, rfl⟩ : ∃ a b c, ns = [a, b, c] := by
    match ns, l with
    | [a, b, c], _ => exact ⟨a, b, c, rfl⟩
  have h1 := (num_ok (k a (by simp))).2.2.1
  have h2 := (num_ok (k b (by simp))).2.2.1
  have h3 := (num_ok (k c (by simp))).2.2.1
  have hd : Dot.length = 1 := by decide +kernel
  simp only [List.map_cons, List.map_nil, List.sum_cons, List.sum_nil, List.length_cons, List.length_nil, hd]
  omega
theorem int_log {n : Int} (h : 0 ≤ n ∧ n < 1000000) : n.natAbs.log2 < 1920 := by
  by_cases h0 : n.natAbs = 0
  · rw [h0]; decide
  · exact (Nat.log2_lt h0).mpr (Nat.lt_trans (show n.natAbs < 10 ^ 6 by omega) (by decide +kernel))
theorem ok_show {f : Addr} {fd : FuncData} {k : Nat} (F : Fun K "show_version" "show_version" sShow f fd) (mT : mg "str" = none) : FnOk P w K mg base CX0 (k + 1) f fd ["version"] spSaid := by
  refine F.ok scShow (fun vs H Q E h => ?_) (fun cdv A outer s H vs Q E hr h => ?_)
  · obtain ⟨p, ns, rfl, _⟩ := h
    rfl
  · obtain ⟨p, ns, rfl, hp, hv, q⟩ := h
    refine ⟨_, pss_one (ps_ret (pe_join pe_str (pe_lc (own := [("number", 1)]) (g := gName 1) rfl scShow.nd (pi_tup (pv 0)) (blkOk_by (N := ["version", "number"]) (sc := defScope sShow) (by decide +kernel))
        (fun _ _ _ _ _ => pg_name (i := 1) scShow.nd rfl (Or.inl rfl)) (fun _ _ _ _ _ => pts_nil) (fun _ _ _ _ _ => pe_callTy call_str_int (by rfl) mT (by decide +kernel) (pa_cons (pv 1) pa_nil))))), ?_⟩
    refine ⟨⟨_, rfl⟩, .ref p, rfl, p, rfl, ⟨_, .inl (.inl hp)⟩, fun Dl nD => ?_⟩
    refine lc_it (walk_tup (xs := ns.map V.int)) (fun j Hc => Hc Dl = some (.lst (((ns.take j).map num).map V.str)) ∧ Same H Hc) ⟨by rw [List.take_zero]; exact upd_same, new_same nD⟩ (fun j Hc _ hP => .inl (.inl (hP.2 _ _ hp))) ?_ (fun Hc hP => ?_)
    · rintro j x Hc H' hj ⟨c1, c2⟩ ⟨rfl, hx⟩
      rw [List.getElem?_map] at hx
      obtain ⟨n, hn, rfl⟩ := Option.map_eq_some_iff.mp hx
      refine ⟨rfl, .int n, rfl, n, rfl, int_log (hv.2 n (List.mem_of_getElem? hn)), _, c1, by rw [List.length_map, List.length_map, List.length_take, sizeLine_eq, hv.1]; omega, ?_, fun y o h => ?_⟩
      · rw [upd_same, List.take_add_one, hn, List.map_append, List.map_append]
        rfl
      · rw [upd_ne (ne_of_none h nD)]
        exact c2 y o h
    · obtain ⟨c1, c2⟩ := hP
      rw [List.length_map, List.take_length] at c1
      exact ⟨Dot, Dl, ns.map num, rfl, rfl, .inl (.inl (.inl c1)), join_fit hv, q Hc c2⟩
theorem ok_said {f : Addr} {fd : FuncData} {k : Nat} (F : Fun K "_law_shown_version" "_law_shown_version" sSaid f fd) (mT : mg "str" = none) : FnOk P w K mg base CX0 (k + 1) f fd ["version"] spSaid := by
  refine F.ok scSaid (fun vs H Q E h => ?_) (fun cdv A outer s H vs Q E hr h => ?_)
  · obtain ⟨p, ns, rfl, _⟩ := h
    rfl
  · obtain ⟨p, ns, rfl, hp, hv, q⟩ := h
    refine ⟨_, pss_one (ps_ret (pe_join pe_str (pe_lc (own := [("part", 1)]) (g := gName 1) rfl scSaid.nd (pi_tup (pv 0)) (blkOk_by (N := ["version", "part"]) (sc := defScope sSaid) (by decide +kernel))
        (fun _ _ _ _ _ => pg_name (i := 1) scSaid.nd rfl (Or.inl rfl)) (fun _ _ _ _ _ => pts_nil) (fun _ _ _ _ _ => pe_callTy call_str_int (by rfl) mT (by decide +kernel) (pa_cons (pv 1) pa_nil))))), ?_⟩
    refine ⟨⟨_, rfl⟩, .ref p, rfl, p, rfl, ⟨_, .inl (.inl hp)⟩, fun Dl nD => ?_⟩
    refine lc_it (walk_tup (xs := ns.map V.int)) (fun j Hc => Hc Dl = some (.lst (((ns.take j).map num).map V.str)) ∧ Same H Hc) ⟨by rw [List.take_zero]; exact upd_same, new_same nD⟩ (fun j Hc _ hP => .inl (.inl (hP.2 _ _ hp))) ?_ (fun Hc hP => ?_)
    · rintro j x Hc H' hj ⟨c1, c2⟩ ⟨rfl, hx⟩
      rw [List.getElem?_map] at hx
      obtain ⟨n, hn, rfl⟩ := Option.map_eq_some_iff.mp hx
      refine ⟨rfl, .int n, rfl, n, rfl, int_log (hv.2 n (List.mem_of_getElem? hn)), _, c1, by rw [List.length_map, List.length_map, List.length_take, sizeLine_eq, hv.1]; omega, ?_, fun y o h => ?_⟩
      · rw [upd_same, List.take_add_one, hn, List.map_append, List.map_append]
        rfl
      · rw [upd_ne (ne_of_none h nD)]
        exact c2 y o h
    · obtain ⟨c1, c2⟩ := hP
      rw [List.length_map, List.take_length] at c1
      exact ⟨Dot, Dl, ns.map num, rfl, rfl, .inl (.inl (.inl c1)), join_fit hv, q Hc c2⟩
def spShown : Sp := fun vs H Q _ => ∃ x : PySem.Str, vs = [.str x] ∧ x.length ≤ 1000000 ∧ ∀ H', Same H H' → Q (.bl (shownB x)) H'
theorem ok_shown {f : Addr} {fd : FuncData} {k : Nat} (F : Fun K "is_shown_number" "is_shown_number" sShown f fd) {t1 t2 : Tok} (gM : mg "MOST_FIGURES" = some (.int 6 t1)) (gF : mg "FIGURES" = some (.str Fg t2)) (mL : mg "len" = none) (mA : mg "all" = none) : FnOk P w K mg base CX0 (k + 1) f fd ["word"] spShown := by
  refine F.ok scShown (fun vs H Q E h => ?_) (fun cdv A outer s H vs Q E hr h => ?_)
  · obtain ⟨x, rfl, _⟩ := h
    rfl
  · obtain ⟨x, rfl, hx, q⟩ := h
    refine ⟨_, pss_cons (ps_if (pt_not (pt_chain op_le op_le pe_int (pe_callB call_len_str (by rfl) mL PySem.boot_len (pa_cons (pv 0) pa_nil)) (pe_glob (v := .int 6) (by rfl) gM ⟨_, rfl⟩))) (pss_one (ps_ret pe_bl)) pss_nil)
      (pss_one (ps_ret (pe_and (pe_callB (cr_all rfl) (by rfl) mA (by decide +kernel) (pa_cons (pe_lc (own := [("sign", 1)]) (g := gName 1) rfl scShown.nd (pi_str (pv 0)) (blkOk_by (N := ["word", "sign"]) (sc := defScope sShown) (by decide +kernel))
          (fun _ _ _ _ _ => pg_name (i := 1) scShown.nd rfl (Or.inl rfl)) (fun _ _ _ _ _ => pts_nil)
          (fun _ _ _ _ _ => pe_cmpR op_in_sign (pv 1) (pe_glob (v := .str Fg) (by rfl) gF ⟨_, rfl⟩) (by rfl))) pa_nil))
        (pe_one (pe_or (pe_cmpR op_eq (pv 0) pe_str (nomark _)) (pe_one (pe_cmpR op_ne (pe_ix ix_str (pv 0) pe_int (fun _ _ => rfl)) pe_str (nomark _)))))))), ?_⟩
    have hz : x.length ≤ sizeLine := by rw [sizeLine_eq]; omega
    refine ⟨.str x, rfl, x, rfl, hz, 1, (x.length : Nat), rfl, rfl, _, rfl, ite2 (fun e1 => ?_) (fun e1 => ?_)⟩
    · have h1 : 1 ≤ x.length := by have := of_decide_eq_true e1; omega
      refine ⟨(x.length : Nat), 6, rfl, rfl, _, rfl, ?_⟩
      by_cases h2 : x.length ≤ 6
      · rw [decide_eq_true (show ((x.length : Nat) : Int) ≤ 6 by omega)]
        have qq : ∀ H', Same H H' → Q (.bl (allIn Fg x.cps.toList && (decide (V.str x = V.str "0") || headOk x))) H' := fun H' s => by
          have z := q H' s
          unfold shownB at z
          rw [decide_eq_true h1, decide_eq_true h2] at z
          exact z
        refine ⟨.str x, rfl, x, rfl, fun Dl nD => ?_⟩
        refine lc_it (walk_str (z := x)) (fun j Hc => Hc Dl = some (.lst ((x.cps.toList.take j).map fun c => .bl (decide (c ∈ Fg.cps.toList)))) ∧ Same H Hc) ⟨by rw [List.take_zero]; exact upd_same, new_same nD⟩ (fun j Hc _ hP => trivial) ?_ (fun Hc hP => ?_)
        · rintro j v Hc H' hj ⟨c1, c2⟩ ⟨rfl, c, hx, rfl⟩
          have hx' : x.cps.toList[j]? = some c := by rw [Array.getElem?_toList]; exact hx
          refine ⟨rfl, .str ⟨#[c]⟩, rfl, c, Fg, rfl, rfl, _, c1, by rw [List.length_map, List.length_take, sizeLine_eq]; have : x.cps.size = x.length := rfl; omega, ?_, fun y o h => ?_⟩
          · rw [upd_same, List.take_add_one, hx', List.map_append]
            rfl
          · rw [upd_ne (ne_of_none h nD)]
            exact c2 y o h
        · obtain ⟨c1, c2⟩ := hP
          have e9 : x.cps.toList.take x.cps.size = x.cps.toList := List.take_of_length_le (by simp)
          rw [e9] at c1
          refine ⟨Dl, x.cps.toList.map fun c => decide (c ∈ Fg.cps.toList), rfl, .inl (.inl (by rw [c1, List.map_map]; rfl)), ?_⟩
          rw [List.all_map]
          have ea : (x.cps.toList.all (id ∘ fun c => decide (c ∈ Fg.cps.toList))) = allIn Fg x.cps.toList := rfl
          rw [ea]
          refine ⟨_, rfl, ite2 (fun e3 => ?_) (fun e3 => ?_)⟩
          · rw [e3] at qq
            refine ⟨.str x, rfl, rfl, _, rfl, ite2 (fun e4 => ?_) (fun e4 => ?_)⟩
            · rw [e4] at qq
              exact qq Hc c2
            · have e4' : decide (V.str x = V.str "0") = false := by simpa using e4
              rw [e4'] at qq
              have hl : 1 ≤ x.cps.toList.length := h1
              cases e5 : x.cps.toList with
              | nil => rw [e5] at hl; simp at hl
              | cons c l =>
                have eh : headOk x = !decide (c = 48) := by unfold headOk; rw [e5]
                rw [eh] at qq
                refine ⟨.str x, rfl, x, 0, c, rfl, rfl, hz, by rw [e5]; exact atI_nat (j := 0) rfl, rfl, ?_⟩
                have e6 : decide (V.str ⟨#[c]⟩ = V.str "0") = decide (c = 48) := by
                  refine decide_eq_decide.mpr ⟨fun z => ?_, fun z => ?_⟩
                  · injection z with z
                    have z2 := congrArg (fun y : PySem.Str => y.cps.toList) z
                    have e0 : ("0" : PySem.Str).cps.toList = [48] := by decide +kernel
                    simp only [e0] at z2
                    simpa using z2
                  · subst z
                    rfl
                rw [e6]
                exact qq Hc c2
          · have e3' : allIn Fg x.cps.toList = false := by simpa using e3
            rw [e3'] at qq
            exact qq Hc c2
      · rw [decide_eq_false (show ¬ ((x.length : Nat) : Int) ≤ 6 by omega)]
        have z := q H (Same.refl _)
        have e0 : shownB x = false := by
          unfold shownB
          rw [decide_eq_false h2, Bool.and_false]
          rfl
        rw [e0] at z
        exact z
    · have h1 : ¬ 1 ≤ x.length := fun z => e1 (decide_eq_true (by omega))
      have z := q H (Same.refl _)
      have e0 : shownB x = false := by
        unfold shownB
        rw [decide_eq_false h1]
        rfl
      rw [e0] at z
      exact ⟨_, rfl, z⟩
end
end V9
/-! The version that a text shows, read twice. -/
namespace V9
open PySem PySem.Spec PyProof.Rows L2 TL
section
variable {P : Program} {w : World} {K : PySem.W.Frag} {mg : PySem.Str → Option Value} {base : Heap}
def spTold : Sp := fun vs H Q _ => ∃ x : PySem.Str, vs = [.str x] ∧ x.length ≤ 900000 ∧ ∀ H' v, Same H H' → OV H' v (readV x) → Q v H'
theorem val_of {w : PySem.Str} (h : shownB w = true) : intText? w = some (val w) := by
  obtain ⟨n, e, _⟩ := shown_val h
  unfold val
  rw [e]
  rfl
theorem ok_told {f fS : Addr} {fd fdS : FuncData} {k : Nat} (F : Fun K "version_told" "version_told" sTold f fd) (FS : Fun K "is_shown_number" "is_shown_number" sShown fS fdS) (bS : Binds K fdS ["word"] []) (gS : mg "is_shown_number" = some (.ref fS))
    {t1 t2 : Tok} (gM : mg "MOST_FIGURES" = some (.int 6 t1)) (gF : mg "FIGURES" = some (.str Fg t2)) (mL : mg "len" = none) (mA : mg "all" = none) (mI : mg "int" = none) : FnOk P w K mg base CX0 (k + 2) f fd ["text"] spTold := by
  have GS : FnOk P w K mg base CX0 (k + 1) fS fdS ["word"] spShown := ok_shown FS gM gF mL mA
  refine F.ok scTold (fun vs H Q E h => ?_) (fun cdv A outer s H vs Q E hr h => ?_)
  · obtain ⟨x, rfl, _⟩ := h
    rfl
  · obtain ⟨x, rfl, hx, q⟩ := h
    refine ⟨_, pss_cons (ps_set (i := 1) scTold.nd rfl (.inl rfl) (pe_split (pv 0) pe_str))
      (pss_cons (ps_if (PW.pt (pw_or (pt_cmpR op_ne (pe_callB call_len_seq (by rfl) mL PySem.boot_len (pa_cons (pv 1) pa_nil)) pe_int (nomark _))
          (pw_or1 (pt_not (pt_val (pe_callB (cr_all rfl) (by rfl) mA (by decide +kernel) (pa_cons (pe_lc (own := [("word", 2)]) (g := gName 2) rfl scTold.nd (pi_list (pv 1)) (blkOk_by (N := ["text", "words", "word"]) (sc := defScope sTold) (by decide +kernel))
            (fun _ _ _ _ _ => pg_name (i := 2) scTold.nd rfl (Or.inl rfl)) (fun _ _ _ _ _ => pts_nil) (fun _ _ _ _ _ => pe_call GS hr (by rfl) gS FS.kp bS .nil pass0 (pa_cons (pv 2) pa_nil))) pa_nil))))))) (pss_one (ps_ret pe_non)) pss_nil)
      (pss_one (ps_ret (pe_tup (pa_cons (pe_callTy call_int_str (by rfl) mI (by decide +kernel) (pa_cons (pe_ix ix_list (pv 1) pe_int (fun _ _ => rfl)) pa_nil))
        (pa_cons (pe_callTy call_int_str (by rfl) mI (by decide +kernel) (pa_cons (pe_ix ix_list (pv 1) pe_int (fun _ _ => rfl)) pa_nil))
        (pa_cons (pe_callTy call_int_str (by rfl) mI (by decide +kernel) (pa_cons (pe_ix ix_list (pv 1) pe_int (fun _ _ => rfl)) pa_nil)) pa_nil))))))), ?_⟩
    refine ⟨.str x, rfl, ⟨x, rfl⟩, x, Dot, rfl, rfl, by decide +kernel, by rw [sizeLine_eq]; omega, fun p np => ?_⟩
    have hm := split_many x
    have hsl : ∀ w ∈ Txt.split x Dot, w.length ≤ x.length := fun w h => split_len h
    have qq : ∀ H' v, Same H H' → OV H' v (if (Txt.split x Dot).length = 3 ∧ (Txt.split x Dot).all shownB = true then some ((Txt.split x Dot).map val) else none) → Q v H' := q
    generalize Txt.split x Dot = ws at hm hsl qq ⊢
    have hp : upd H p (.lst (ws.map V.str)) p = some (.lst (ws.map V.str)) := upd_same
    have s0 : Same H (upd H p (.lst (ws.map V.str))) := new_same np
    generalize upd H p (.lst (ws.map V.str)) = H1 at hp s0 ⊢
    refine ⟨_, rfl, p, ws.map V.str, rfl, .inl (.inl (.inl hp)), rfl, _, rfl, ?_⟩
    rw [List.length_map]
    by_cases h3 : ws.length = 3
    · have e3 : (!decide (V.int (ws.length : Nat) = V.int 3)) = false := by rw [h3]; rfl
      rw [e3]
      refine ⟨_, rfl, p, rfl, ⟨_, .inl (.inl hp)⟩, fun Dl nD => ?_⟩
      refine lc_it (walk_list (xs := ws.map V.str)) (fun j Hc => Hc Dl = some (.lst ((ws.take j).map fun w => .bl (shownB w))) ∧ Same H1 Hc) ⟨by rw [List.take_zero]; exact upd_same, new_same nD⟩ (fun j Hc _ hP => .inl (.inl (hP.2 _ _ hp))) ?_ (fun Hc hP => ?_)
      · rintro j v Hc H' hj ⟨c1, c2⟩ ⟨rfl, hx'⟩
        rw [List.getElem?_map] at hx'
        obtain ⟨w, hw, rfl⟩ := Option.map_eq_some_iff.mp hx'
        have nDH : H1 Dl = none := nD
        refine ⟨rfl, .str w, rfl, w, rfl, by have := hsl w (List.mem_of_getElem? hw); omega, fun H2 s2 => ⟨_, s2 _ _ c1, by rw [List.length_map, List.length_take, sizeLine_eq]; omega, ?_, fun y o h => ?_⟩⟩
        · rw [upd_same, List.take_add_one, hw, List.map_append]
          rfl
        · rw [upd_ne (ne_of_none h nDH)]
          exact s2 _ _ (c2 y o h)
      · obtain ⟨c1, c2⟩ := hP
        rw [List.length_map, List.take_length] at c1
        have hp' := c2 _ _ hp
        refine ⟨Dl, ws.map shownB, rfl, .inl (.inl (by rw [c1, List.map_map]; rfl)), _, rfl, ?_⟩
        rw [List.all_map]
        have ea : ws.all (id ∘ shownB) = ws.all shownB := rfl
        rw [ea]
        by_cases ha : ws.all shownB = true
        · rw [ha]
          rw [if_pos ⟨h3, ha⟩] at qq
          obtain ⟨a, b, c, rfl⟩ : ∃ a b c, ws = [a, b, c] := by
            match ws, h3 with
            | [a, b, c], _ => exact ⟨a, b, c, rfl⟩
          simp only [List.all_cons, List.all_nil, Bool.and_eq_true] at ha
          obtain ⟨ka, kb, kc, _⟩ := ha
          have l640 : ∀ w, shownB w = true → w.length ≤ 640 := fun w h => by obtain ⟨_, _, _, z⟩ := shown_val h; omega
          refine ⟨_, rfl, p, _, 0, .str a, rfl, rfl, .inl (.inl hp'), rfl, a, val a, rfl, val_of ka, l640 a ka, ?_⟩
          refine ⟨_, rfl, p, _, 1, .str b, rfl, rfl, .inl (.inl hp'), rfl, b, val b, rfl, val_of kb, l640 b kb, ?_⟩
          refine ⟨_, rfl, p, _, 2, .str c, rfl, rfl, .inl (.inl hp'), rfl, c, val c, rfl, val_of kc, l640 c kc, ?_⟩
          exact ⟨by show 3 ≤ sizeLine; decide, fun r nr => qq _ _ (s0.trans (c2.trans (new_same nr))) ⟨r, rfl, upd_same⟩⟩
        · have ha' : ws.all shownB = false := by simpa using ha
          rw [ha']
          rw [if_neg (fun z => ha z.2)] at qq
          exact qq Hc .non (s0.trans c2) rfl
    · have e3 : (!decide (V.int (ws.length : Nat) = V.int 3)) = true := by
        rw [decide_eq_false (fun z => h3 (by injection z with z; omega))]
        rfl
      rw [e3]
      rw [if_neg (fun z => h3 z.1)] at qq
      exact qq H1 .non s0 rfl
end
end V9
/-! Texts of locks, purely. -/
namespace V9
open PySem PySem.Spec PyProof.Rows L2 TL
def Bk : PySem.Str := " "
def Nl : PySem.Str := "\n"
abbrev E3 := PySem.Str × List Int × List PySem.Str
def isName (x : PySem.Str) : Bool := isN (.str x)
def wordsE (e : E3) : List PySem.Str := "lock" :: e.1 :: said e.2.1 :: (if e.2.2 = [] then [] else ";" :: "with" :: e.2.2)
def lineE (e : E3) : PySem.Str := Txt.join Bk (wordsE e)
def showE (L : List E3) : PySem.Str := Txt.join Nl (L.map lineE)
structure VE (e : E3) : Prop where
  n : isName e.1 = true
  v : Vs e.2.1
  f : ∀ x ∈ e.2.2, isName x = true
  a : TX.Asc e.2.2
structure VL (L : List E3) : Prop where
  e : ∀ e ∈ L, VE e
  a : TX.Asc (L.map (·.1))
/-- neither a blank nor a line feed -/
def Cl (x : PySem.Str) : Prop := ∀ c ∈ tl x, c ≠ 32 ∧ c ≠ 10
theorem name_sign {x : PySem.Str} (h : isName x = true) : (∀ c ∈ tl x, c ∈ Nz.cps.toList) ∧ 1 ≤ x.length ∧ x.length ≤ 20 := by
  have h' : (decide (1 ≤ x.length) && decide (x.length ≤ 20) && (headIn x && allIn Nz x.cps.toList)) = true := h
  simp only [Bool.and_eq_true, decide_eq_true_eq] at h'
  exact ⟨fun c hc => of_decide_eq_true (List.all_eq_true.mp h'.2.2 c hc), h'.1.1, h'.1.2⟩
theorem nz_free {c : Nat} (h : c ∈ Nz.cps.toList) : c ≠ 32 ∧ c ≠ 10 := by
  refine ⟨fun e => ?_, fun e => ?_⟩ <;> · rw [e] at h; revert h; decide +kernel
theorem cl_name {x : PySem.Str} (h : isName x = true) : Cl x := fun c hc => nz_free ((name_sign h).1 c hc)
theorem mem_joinL {c : Nat} {S : List Nat} : ∀ {ps : List (List Nat)}, c ∈ joinL S ps → c ∈ S ∨ ∃ p ∈ ps, c ∈ p
  | [], h => by simp [joinL] at h
  | [p], h => .inr ⟨p, List.mem_cons_self, h⟩
  | p :: q :: r, h => by
    have h' : c ∈ p ++ (S ++ joinL S (q :: r)) := h
    rw [List.mem_append, List.mem_append] at h'
    rcases h' with h1 | h1 | h1
    · exact .inr ⟨p, List.mem_cons_self, h1⟩
    · exact .inl h1
    · rcases mem_joinL h1 with h2 | ⟨p', m, h2⟩
      · exact .inl h2
      · exact .inr ⟨p', List.mem_cons_of_mem _ m, h2⟩
theorem mem_join {c : Nat} {y : PySem.Str} {ps : List PySem.Str} (h : c ∈ tl (Txt.join y ps)) : c ∈ tl y ∨ ∃ p ∈ ps, c ∈ tl p := by
  rw [join_eq, tl_join] at h
  rcases mem_joinL h with h1 | ⟨p, m, h1⟩
  · exact .inl h1
  · obtain ⟨z, hz, rfl⟩ := List.mem_map.mp m
    exact .inr ⟨z, hz, h1⟩
theorem tl_bk : tl Bk = [32] := by decide +kernel
theorem tl_nl : tl Nl = [10] := by decide +kernel
theorem cl_said {ns : List Int} (h : Vs ns) : Cl (said ns) := fun c hc => by
  rcases mem_join hc with h1 | ⟨p, m, h1⟩
  · rw [tl_dot] at h1
    simp at h1
    omega
  · obtain ⟨n, hn, rfl⟩ := List.mem_map.mp m
    obtain ⟨k, rfl⟩ : ∃ k : Nat, n = (k : Int) := ⟨n.toNat, by have := (h.2 n hn).1; omega⟩
    have e : tl (num (k : Int)) = numL k := tl_num k
    rw [e] at h1
    have := numL_digits k c h1
    omega
theorem cl_words {e : E3} (h : VE e) : ∀ w ∈ wordsE e, Cl w := by
  have k1 : Cl "lock" := by intro c hc; revert c; decide +kernel
  have k2 : Cl ";" := by intro c hc; revert c; decide +kernel
  have k3 : Cl "with" := by intro c hc; revert c; decide +kernel
  intro w hw
  unfold wordsE at hw
  rcases List.mem_cons.mp hw with e1 | hw
  · rw [e1]; exact k1
  rcases List.mem_cons.mp hw with e1 | hw
  · rw [e1]; exact cl_name h.n
  rcases List.mem_cons.mp hw with e1 | hw
  · rw [e1]; exact cl_said h.v
  split at hw
  · exact absurd hw (by simp)
  · rcases List.mem_cons.mp hw with e1 | hw
    · rw [e1]; exact k2
    rcases List.mem_cons.mp hw with e1 | hw
    · rw [e1]; exact k3
    · exact cl_name (h.f w hw)
theorem split_line {e : E3} (h : VE e) : Txt.split (lineE e) Bk = wordsE e :=
  split_join tl_bk (by decide +kernel) (by unfold wordsE; simp) fun p hp m => (cl_words h p hp 32 m).1 rfl
theorem line_free {e : E3} (h : VE e) : (10 : Nat) ∉ tl (lineE e) := fun m => by
  rcases mem_join m with h1 | ⟨p, hp, h1⟩
  · rw [tl_bk] at h1; simp at h1
  · exact (cl_words h p hp 10 h1).2 rfl
/-- the lines of a text -/
def linesT (t : PySem.Str) : List PySem.Str := if t = "" then [] else Txt.split t Nl
theorem show_nil : showE [] = "" := by decide +kernel
theorem str_nil {t : PySem.Str} : t = "" ↔ tl t = [] := ⟨fun h => by rw [h]; decide +kernel, fun h => ext_tl (by rw [h]; decide +kernel)⟩
theorem line_ne {e : E3} : tl (lineE e) ≠ [] := fun h => by
  unfold lineE at h
  rw [join_eq, tl_join, tl_bk] at h
  have : joinL [32] ((wordsE e).map tl) = tl "lock" ++ ([32] ++ joinL [32] ((wordsE e).tail.map tl)) := rfl
  rw [this] at h
  simp at h
theorem show_ne {e : E3} {L : List E3} : showE (e :: L) ≠ "" := fun h => by
  have h := str_nil.mp h
  unfold showE at h
  rw [join_eq, tl_join] at h
  cases L with
  | nil => exact line_ne h
  | cons e2 L =>
    have : joinL (tl Nl) (((e :: e2 :: L).map lineE).map tl) = tl (lineE e) ++ (tl Nl ++ joinL (tl Nl) (((e2 :: L).map lineE).map tl)) := rfl
    rw [this, tl_nl] at h
    simp at h
theorem lines_show {L : List E3} (h : VL L) : linesT (showE L) = L.map lineE := by
  cases L with
  | nil =>
    unfold linesT
    rw [show_nil, if_pos rfl]
    rfl
  | cons e L =>
    unfold linesT
    rw [if_neg show_ne]
    exact split_join tl_nl (by decide +kernel) (by simp) fun p hp m => by
      obtain ⟨z, hz, rfl⟩ := List.mem_map.mp hp
      exact line_free (h.e z hz) m
/-- what the law's reader and the program's see in the words of a line -/
def Lln (ws : List PySem.Str) (e : E3) : Prop := ∃ (v : PySem.Str) (r : List PySem.Str), ws = ("lock" : PySem.Str) :: e.1 :: v :: r ∧ isName e.1 = true ∧ readV v = some e.2.1 ∧ e.2.2 = r.drop 2 ∧ (∀ x ∈ e.2.2, isName x = true) ∧ TX.Asc e.2.2
def Pln (ws : List PySem.Str) (e : E3) : Prop := Lln ws e ∧ ((ws.drop 3).take 2 = [] ∨ (ws.drop 3).take 2 = [(";" : PySem.Str), "with"])
theorem Lln.one {ws : List PySem.Str} {e e' : E3} (x : Lln ws e) (y : Lln ws e') : e = e' := by
  obtain ⟨v, r, h1, _, h2, h3, _⟩ := x
  obtain ⟨v', r', k1, _, k2, k3, _⟩ := y
  rw [h1] at k1
  simp only [List.cons.injEq, true_and] at k1
  obtain ⟨a1, a2, a3⟩ := k1
  rw [← a2, h2] at k2
  rw [← a3] at k3
  have b := Option.some.inj k2
  exact Prod.ext a1 (Prod.ext b (h3.trans k3.symm))
theorem vs_read {v : PySem.Str} {l : List Int} (h : readV v = some l) : Vs l := by
  unfold readV at h
  split at h
  · rename_i k
    cases h
    refine ⟨by rw [List.length_map]; exact k.1, fun n hn => ?_⟩
    obtain ⟨w, hw, rfl⟩ := List.mem_map.mp hn
    obtain ⟨m, e, z, _⟩ := shown_val (List.all_eq_true.mp k.2 w hw)
    unfold val
    rw [e]
    show 0 ≤ (m : Int) ∧ (m : Int) < 1000000
    omega
  · cases h
theorem Lln.ve {ws : List PySem.Str} {e : E3} (h : Lln ws e) : VE e := by
  obtain ⟨v, r, _, h2, h3, h4, h5, h6⟩ := h
  exact ⟨h2, vs_read h3, h5, h6⟩
theorem pe_words {e : E3} (h : VE e) : Pln (wordsE e) e := by
  unfold wordsE
  by_cases z : e.2.2 = []
  · rw [if_pos z]
    exact ⟨⟨_, _, rfl, h.n, read_said h.v, by rw [z]; rfl, h.f, h.a⟩, .inl rfl⟩
  · rw [if_neg z]
    exact ⟨⟨_, _, rfl, h.n, read_said h.v, rfl, h.f, h.a⟩, .inr rfl⟩
/-- no lock is shown so, if a line says none -/
theorem no_line {t l : PySem.Str} (hl : l ∈ linesT t) (h : ∀ e, ¬ Pln (Txt.split l Bk) e) {L : List E3} (V : VL L) : showE L ≠ t := fun e => by
  rw [← e, lines_show V] at hl
  obtain ⟨z, hz, rfl⟩ := List.mem_map.mp hl
  exact h z (by rw [split_line (V.e z hz)]; exact pe_words (V.e z hz))
inductive Rds (R : List PySem.Str → E3 → Prop) : List PySem.Str → List E3 → Prop
  | nil : Rds R [] []
  | cons {l : PySem.Str} {ls : List PySem.Str} {e : E3} {L : List E3} : R (Txt.split l Bk) e → Rds R ls L → Rds R (l :: ls) (e :: L)
theorem Rds.snoc {R : List PySem.Str → E3 → Prop} {ls : List PySem.Str} {L : List E3} {l : PySem.Str} {e : E3} (h : Rds R ls L) (k : R (Txt.split l Bk) e) : Rds R (ls ++ [l]) (L ++ [e]) := by
  induction h with
  | nil => exact .cons k .nil
  | cons a b ih => exact .cons a ih
theorem Rds.lines : ∀ {L Es : List E3}, (∀ e ∈ L, VE e) → Rds Lln (L.map lineE) Es → Es = L
  | [], _, _, h => by cases h; rfl
  | e :: L, _, V, h => by
    cases h with
    | cons a b =>
      rw [split_line (V e List.mem_cons_self)] at a
      rw [Lln.one a (pe_words (V e List.mem_cons_self)).1, Rds.lines (fun z hz => V z (List.mem_cons_of_mem _ hz)) b]
theorem Rds.shown {t : PySem.Str} {L Es : List E3} (h : Rds Lln (linesT t) Es) (V : VL L) (e : showE L = t) : Es = L := by
  rw [← e, lines_show V] at h
  exact Rds.lines V.e h
theorem Rds.imp {R R' : List PySem.Str → E3 → Prop} (k : ∀ ws e, R ws e → R' ws e) {ls : List PySem.Str} {L : List E3} (h : Rds R ls L) : Rds R' ls L := by
  induction h with
  | nil => exact .nil
  | cons a b ih => exact .cons (k _ _ a) ih
theorem Rds.all {R : List PySem.Str → E3 → Prop} {ls : List PySem.Str} {L : List E3} (h : Rds R ls L) : ∀ e ∈ L, ∃ ws, R ws e := by
  induction h with
  | nil => intro e he; cases he
  | cons a b ih =>
    intro e he
    rcases List.mem_cons.mp he with z | z
    · rw [z]; exact ⟨_, a⟩
    · exact ih e z
theorem show_inj {L L' : List E3} (V : VL L) (V' : VL L') (e : showE L = showE L') : L = L' := by
  have r : ∀ {L : List E3}, (∀ e ∈ L, VE e) → Rds Lln (L.map lineE) L := by
    intro L
    induction L with
    | nil => intro _; exact .nil
    | cons e L ih => exact fun V => .cons (by rw [split_line (V e List.mem_cons_self)]; exact (pe_words (V e List.mem_cons_self)).1) (ih fun z hz => V z (List.mem_cons_of_mem _ hz))
  have h := r V.e
  rw [← lines_show V, e] at h
  exact h.shown V' rfl
open Classical in
/-- the lock that a text shows -/
noncomputable def lockT (t : PySem.Str) : Option (List E3) := if h : ∃ L, VL L ∧ showE L = t then some (choose h) else none
theorem lock_some {t : PySem.Str} {L : List E3} (V : VL L) (e : showE L = t) : lockT t = some L := by
  have h : ∃ L, VL L ∧ showE L = t := ⟨L, V, e⟩
  unfold lockT
  rw [dif_pos h]
  have k := Classical.choose_spec h
  exact congrArg some (show_inj k.1 V (by rw [k.2, e]))
theorem lock_none {t : PySem.Str} (h : ∀ L, VL L → showE L ≠ t) : lockT t = none := by
  unfold lockT
  exact dif_neg fun ⟨L, V, e⟩ => h L V e
theorem lock_VL {t : PySem.Str} {L : List E3} (h : lockT t = some L) : VL L ∧ showE L = t := by
  unfold lockT at h
  split at h
  · rename_i k
    cases h
    exact Classical.choose_spec k
  · cases h
end V9
/-! Locks as lines: what the program shows. -/
namespace V9
open PySem PySem.Spec PyProof.Rows L2 TL
abbrev sFts : Stmt := topS 18
abbrev sLine : Stmt := topS 19
abbrev sLock : Stmt := topS 21
theorem scFts : FnScope ["word", "features"] ["word", "features"] (defScope sFts) := ⟨rfl, rfl, rfl, by decide +kernel, rfl, by decide +kernel, by decide +kernel⟩
theorem scLine : FnScope ["name", "held", "version", "features"] ["name", "held"] (defScope sLine) := ⟨rfl, rfl, rfl, by decide +kernel, rfl, by decide +kernel, by decide +kernel⟩
theorem scLock : FnScope ["lock", "name"] ["lock"] (defScope sLock) := ⟨rfl, rfl, rfl, by decide +kernel, rfl, by decide +kernel, by decide +kernel⟩
structure VB (e : E3) : Prop where
  n : e.1.length ≤ 20
  v : Vs e.2.1
  f : ∀ x ∈ e.2.2, x.length ≤ 20
  k : e.2.2.length ≤ 60
theorem VE.vb {e : E3} (h : VE e) (k : e.2.2.length ≤ 60) : VB e := ⟨(name_sign h.n).2.2, h.v, fun x hx => (name_sign (h.f x hx)).2.2, k⟩
def ftsE (fs : List PySem.Str) : PySem.Str := if fs = [] then "" else Str.empty ++ " ; " ++ "with" ++ " " ++ Txt.join Bk fs
def lineP (e : E3) : PySem.Str := Str.empty ++ "lock " ++ e.1 ++ " " ++ said e.2.1 ++ ftsE e.2.2
theorem line_eq (e : E3) : lineP e = lineE e := by
  have k0 : tl Str.empty = [] := by decide +kernel
  have k1 : tl "lock " = tl "lock" ++ [32] := by decide +kernel
  have k2 : tl " " = [32] := by decide +kernel
  have k3 : tl " ; " = [32] ++ (tl ";" ++ [32]) := by decide +kernel
  refine ext_tl ?_
  unfold lineP lineE ftsE wordsE
  by_cases hf : e.2.2 = []
  · rw [if_pos hf, if_pos hf]
    have z : tl (Txt.join Bk (("lock" : PySem.Str) :: e.1 :: said e.2.1 :: [])) = tl "lock" ++ ([32] ++ (tl e.1 ++ ([32] ++ tl (said e.2.1)))) := by rw [join_eq, tl_join, tl_bk]; rfl
    rw [z]
    have k4 : tl "" = [] := by decide +kernel
    simp only [tl_append, k0, k1, k2, k4, List.append_assoc, List.nil_append, List.append_nil]
  · rw [if_neg hf, if_neg hf]
    obtain ⟨f, r, hfr⟩ : ∃ f r, e.2.2 = f :: r := by
      cases h : e.2.2 with
      | nil => exact absurd h hf
      | cons f r => exact ⟨f, r, rfl⟩
    rw [hfr]
    have z : tl (Txt.join Bk (("lock" : PySem.Str) :: e.1 :: said e.2.1 :: ";" :: "with" :: f :: r)) = tl "lock" ++ ([32] ++ (tl e.1 ++ ([32] ++ (tl (said e.2.1) ++ ([32] ++ (tl ";" ++ ([32] ++ (tl "with" ++ ([32] ++ joinL [32] ((f :: r).map tl)))))))))) := by rw [join_eq, tl_join, tl_bk]; rfl
    rw [z]
    have k5 : tl (Txt.join Bk (f :: r)) = joinL [32] ((f :: r).map tl) := by rw [join_eq, tl_join, tl_bk]
    simp only [tl_append, k0, k1, k2, k3, k5, List.append_assoc, List.nil_append, List.append_nil]
theorem joinL_len (S : List Nat) : ∀ ps : List (List Nat), (joinL S ps).length ≤ (ps.map (·.length)).sum + ps.length * S.length
  | [] => Nat.zero_le _
  | [p] => by show p.length ≤ _; simp
  | p :: q :: r => by
    have ih := joinL_len S (q :: r)
    show (p ++ (S ++ joinL S (q :: r))).length ≤ _
    rw [List.length_append, List.length_append, List.map_cons, List.sum_cons, List.length_cons, Nat.succ_mul]
    omega
theorem join_len (y : PySem.Str) (ps : List PySem.Str) : (Txt.join y ps).length ≤ (ps.map (·.length)).sum + ps.length * y.length := by
  have h := joinL_len (tl y) (ps.map tl)
  rw [← tl_join, ← join_eq, ← len_tl, ← len_tl, List.length_map, List.map_map] at h
  have e : (List.length ∘ tl) = fun x : PySem.Str => x.length := funext fun x => (len_tl x).symm
  rw [e] at h
  exact h
theorem sum_le {ps : List PySem.Str} {m : Nat} (h : ∀ p ∈ ps, p.length ≤ m) : (ps.map (·.length)).sum ≤ ps.length * m := by
  induction ps with
  | nil => exact Nat.zero_le _
  | cons p ps ih =>
    rw [List.map_cons, List.sum_cons, List.length_cons, Nat.succ_mul]
    have := h p List.mem_cons_self
    have := ih fun q hq => h q (List.mem_cons_of_mem _ hq)
    omega
theorem said_len {ns : List Int} (h : Vs ns) : (said ns).length ≤ 30 := by
  have h1 := join_len Dot (ns.map num)
  have h2 : ((ns.map num).map (·.length)).sum ≤ (ns.map num).length * 6 := sum_le fun p hp => by
    obtain ⟨n, hn, rfl⟩ := List.mem_map.mp hp
    exact (num_ok (h.2 n hn)).2.2.1
  have hd : Dot.length = 1 := by decide +kernel
  rw [List.length_map, h.1] at h1 h2
  rw [hd] at h1
  have : (said ns).length ≤ _ := h1
  omega
theorem fjoin_len {fs : List PySem.Str} (h : ∀ x ∈ fs, x.length ≤ 20) (k : fs.length ≤ 60) : (fs.map (·.length)).sum + fs.length * Bk.length ≤ 1300 ∧ (Txt.join Bk fs).length ≤ 1300 := by
  have h1 := sum_le h
  have hb : Bk.length = 1 := by decide +kernel
  have h2 := join_len Bk fs
  rw [hb] at h2 ⊢
  omega
theorem app_len (a b : PySem.Str) : (a ++ b).length = a.length + b.length := by rw [len_tl, len_tl a, len_tl b, tl_append, List.length_append]
theorem fts_len {fs : List PySem.Str} (h : ∀ x ∈ fs, x.length ≤ 20) (k : fs.length ≤ 60) : (ftsE fs).length ≤ 1400 := by
  unfold ftsE
  split
  · show 0 ≤ _; omega
  · have := (fjoin_len h k).2
    have k1 : (Str.empty ++ " ; " ++ "with" ++ " " : PySem.Str).length = 8 := by decide +kernel
    rw [app_len, k1]
    omega
theorem line_len {e : E3} (h : VB e) : (lineE e).length ≤ 1500 := by
  rw [← line_eq]
  unfold lineP
  have h1 := fts_len h.f h.k
  have h2 := said_len h.v
  have h3 := h.n
  have k1 : (Str.empty ++ "lock " : PySem.Str).length = 5 := by decide +kernel
  have k2 : (" " : PySem.Str).length = 1 := by decide +kernel
  rw [app_len, app_len, app_len, app_len, k1, k2]
  omega
/-- the entry's value -/
def EW (H : Hp) (v : V) (d : List Int × List PySem.Str) : Prop := ∃ a p q, v = .ref a ∧ H a = some (.tup [.ref p, .ref q]) ∧ H p = some (.tup (d.1.map V.int)) ∧ H q = some (.tup (d.2.map V.str))
theorem EW.kt {H H' : Hp} {v : V} {d : List Int × List PySem.Str} (h : EW H v d) (k : KT H H') : EW H' v d := by
  obtain ⟨a, p, q, e, h1, h2, h3⟩ := h
  exact ⟨a, p, q, e, k _ _ h1, k _ _ h2, k _ _ h3⟩
inductive Ens (H : Hp) : List (PySem.Str × V) → List E3 → Prop
  | nil : Ens H [] []
  | cons {v : V} {e : E3} {ks : List (PySem.Str × V)} {L : List E3} : EW H v e.2 → Ens H ks L → Ens H ((e.1, v) :: ks) (e :: L)
theorem Ens.kt {H H' : Hp} {ks : List (PySem.Str × V)} {L : List E3} (h : Ens H ks L) (k : KT H H') : Ens H' ks L := by
  induction h with
  | nil => exact .nil
  | cons a b ih => exact .cons (a.kt k) ih
theorem Ens.keys {H : Hp} {ks : List (PySem.Str × V)} {L : List E3} (h : Ens H ks L) : ks.map (·.1) = L.map (·.1) := by
  induction h with
  | nil => rfl
  | cons a b ih => rw [List.map_cons, List.map_cons, ih]
theorem Ens.mem {H : Hp} {ks : List (PySem.Str × V)} {L : List E3} (h : Ens H ks L) : ∀ e ∈ L, ∃ v, (e.1, v) ∈ ks ∧ EW H v e.2 := by
  induction h with
  | nil => intro e he; cases he
  | cons a b ih =>
    intro e he
    rcases List.mem_cons.mp he with z | z
    · rw [z]; exact ⟨_, List.mem_cons_self, a⟩
    · obtain ⟨v, h1, h2⟩ := ih e z
      exact ⟨v, List.mem_cons_of_mem _ h1, h2⟩
structure DW (H : Hp) (d : Addr) (ks : List (PySem.Str × V)) (L : List E3) : Prop where
  at_ : H d = some (.dK (kk ks))
  nd : (L.map (·.1)).Nodup
  en : Ens H ks L
theorem DW.same {H H' : Hp} {d : Addr} {ks : List (PySem.Str × V)} {L : List E3} (h : DW H d ks L) (s : Same H H') : DW H' d ks L := ⟨s _ _ h.at_, h.nd, h.en.kt (KT.same s)⟩
theorem DW.get {H : Hp} {d : Addr} {ks : List (PySem.Str × V)} {L : List E3} (h : DW H d ks L) {e : E3} (he : e ∈ L) : ∃ v, valV (kk ks) (Sum.inr e.1) = some v ∧ EW H v e.2 := by
  obtain ⟨v, h1, h2⟩ := h.en.mem e he
  exact ⟨v, by rw [val_kk]; exact val_mem (by rw [h.en.keys]; exact h.nd) h1, h2⟩
section
variable {P : Program} {w : World} {K : PySem.W.Frag} {mg : PySem.Str → Option Value} {base : Heap}
def spFts : Sp := fun vs H Q _ => ∃ (q : Addr) (fs : List PySem.Str), vs = [.str "with", .ref q] ∧ H q = some (.tup (fs.map V.str)) ∧ (∀ x ∈ fs, x.length ≤ 20) ∧ fs.length ≤ 60 ∧ Q (.str (ftsE fs)) H
theorem ok_fts {f : Addr} {fd : FuncData} {k : Nat} (F : Fun K "show_features" "show_features" sFts f fd) : FnOk P w K mg base CX0 (k + 1) f fd ["word", "features"] spFts := by
  refine F.ok scFts (fun vs H Q E h => ?_) (fun cdv A outer s H vs Q E hr h => ?_)
  · obtain ⟨q, fs, rfl, _⟩ := h
    rfl
  · obtain ⟨p, fs, rfl, hp, hf, hk, q⟩ := h
    refine ⟨_, pss_one (ps_ret (pe_ifExp (pt_truth (pv 1) (fun _ => rfl)) (pe_joined (.cons pe_str (.cons (pe_fmt (pv 0)) (.cons pe_str (.cons (pe_fmt (pe_join pe_str (pv 1))) .nil))))) pe_str)), ?_⟩
    refine ⟨_, rfl, !(fs.map V.str).isEmpty, .inr (.inl ⟨_, .inl (.inl hp), rfl⟩), ?_⟩
    have qq := q
    unfold ftsE at qq
    by_cases hn : fs = []
    · subst hn
      exact qq
    · rw [if_neg hn] at qq
      have e1 : (!(fs.map V.str).isEmpty) = true := by cases fs with | nil => exact absurd rfl hn | cons _ _ => rfl
      have l1 := (fjoin_len hf hk)
      have k1 : (Str.empty ++ " ; " ++ "with" ++ " " : PySem.Str).length = 8 := by decide +kernel
      rw [e1]
      refine ⟨" ; ", rfl, by decide +kernel, _, rfl, .inl ⟨"with", rfl, by decide +kernel, ?_⟩⟩
      refine ⟨"with", rfl, by decide +kernel, " ", rfl, by decide +kernel, ?_⟩
      refine ⟨⟨_, rfl⟩, _, rfl, Bk, p, fs, rfl, rfl, .inr (.inl (.inl hp)), by omega, .inl ⟨_, rfl, by rw [sizeLine_eq]; omega, _, rfl, ?_, qq⟩⟩
      rw [app_len, k1, sizeLine_eq]
      omega
def spLine : Sp := fun vs H Q _ => ∃ (v : V) (e : E3), vs = [.str e.1, v] ∧ EW H v e.2 ∧ VB e ∧ ∀ H', Same H H' → Q (.str (lineE e)) H'
theorem ok_line {f fF fS : Addr} {fd fdF fdS : FuncData} {k : Nat} (F : Fun K "lock_line" "lock_line" sLine f fd) (FF : Fun K "show_features" "show_features" sFts fF fdF) (bF : Binds K fdF ["word", "features"] []) (gF : mg "show_features" = some (.ref fF))
    (FS : Fun K "show_version" "show_version" sShow fS fdS) (bS : Binds K fdS ["version"] []) (gS : mg "show_version" = some (.ref fS)) (mT : mg "str" = none) : FnOk P w K mg base CX0 (k + 2) f fd ["name", "held"] spLine := by
  have GF : FnOk P w K mg base CX0 (k + 1) fF fdF ["word", "features"] spFts := ok_fts FF
  have GS : FnOk P w K mg base CX0 (k + 1) fS fdS ["version"] spSaid := ok_show FS mT
  refine F.ok scLine (fun vs H Q E h => ?_) (fun cdv A outer s H vs Q E hr h => ?_)
  · obtain ⟨v, e, rfl, _⟩ := h
    rfl
  · obtain ⟨v, e, rfl, ⟨a, p, q, rfl, ha, hp, hq⟩, vb, qq⟩ := h
    refine ⟨_, pss_cons (ps_asg (pv 1) (pg_tup rfl (pgs_cons (pg_name (i := 2) scLine.nd rfl (Or.inl rfl)) (pgs_cons (pg_name (i := 3) scLine.nd rfl (Or.inl rfl)) pgs_nil))))
      (pss_one (ps_ret (pe_joined (.cons pe_str (.cons (pe_fmt (pv 0)) (.cons pe_str (.cons (pe_fmt (pe_call GS hr (by rfl) gS FS.kp bS .nil pass0 (pa_cons (pv 2) pa_nil)))
        (.cons (pe_fmt (pe_call GF hr (by rfl) gF FF.kp bF .nil pass0 (pa_cons pe_str (pa_cons (pv 3) pa_nil)))) .nil)))))))), ?_⟩
    refine ⟨_, rfl, a, _, rfl, .inl (.inl ha), rfl, _, _, rfl, _, _, rfl, rfl, ?_⟩
    have k1 : (Str.empty ++ "lock " : PySem.Str).length = 5 := by decide +kernel
    have k2 : (" " : PySem.Str).length = 1 := by decide +kernel
    have ls := said_len vb.v
    have lf := fts_len vb.f vb.k
    have ln := vb.n
    have hz : sizeLine = 16777216 := sizeLine_eq
    refine ⟨"lock ", rfl, by decide +kernel, _, rfl, .inl ⟨_, rfl, by omega, _, rfl, by rw [app_len, k1]; omega, " ", rfl, by rw [app_len, app_len, k1, k2]; omega, ?_⟩⟩
    refine ⟨_, rfl, p, e.2.1, rfl, hp, vb.v, fun H1 s1 => .inl ⟨_, rfl, by omega, _, rfl, by rw [app_len, app_len, app_len, k1, k2]; omega, ?_⟩⟩
    refine ⟨_, rfl, q, e.2.2, rfl, s1 _ _ hq, vb.f, vb.k, .inl ⟨_, rfl, by omega, _, rfl, by rw [app_len, app_len, app_len, app_len, k1, k2]; omega, ?_⟩⟩
    have z := qq H1 s1
    rw [← line_eq] at z
    exact z
end
end V9
/-! Locks shown. -/
namespace V9
open PySem PySem.Spec PyProof.Rows L2 TL
abbrev sLText : Stmt := topS 38
theorem scLText : FnScope ["lock", "lines", "name", "version", "features", "more"] ["lock"] (defScope sLText) := ⟨rfl, rfl, rfl, by decide +kernel, rfl, by decide +kernel, by decide +kernel⟩
theorem lines_fit {S : List E3} (hb : ∀ e ∈ S, VB e) (hl : S.length ≤ 40) : ((S.map lineE).map (·.length)).sum + (S.map lineE).length * Nl.length ≤ 16777216 := by
  have h : ((S.map lineE).map (·.length)).sum ≤ (S.map lineE).length * 1500 := sum_le fun p hp => by
    obtain ⟨e, he, rfl⟩ := List.mem_map.mp hp
    exact line_len (hb e he)
  have hn : Nl.length = 1 := by decide +kernel
  rw [List.length_map] at h ⊢
  rw [hn]
  omega
section
variable {P : Program} {w : World} {K : PySem.W.Frag} {mg : PySem.Str → Option Value} {base : Heap}
def spShowL : Sp := fun vs H Q _ => ∃ (d : Addr) (ks : List (PySem.Str × V)) (L : List E3), vs = [.ref d] ∧ DW H d ks L ∧ (∀ e ∈ L, VB e) ∧ L.length ≤ 40 ∧
  ∀ (H' : Hp) (S : List E3), Same H H' → S.Perm L → sortedS (S.map (·.1)) = true → Q (.str (showE S)) H'
theorem sort_of {L : List E3} {ys : List PySem.Str} (pm : ys.Perm (L.map (·.1))) : ∃ S : List E3, S.Perm L ∧ ys = S.map (·.1) := perm_map_inv pm L rfl
theorem ok_lockS {f fL fF fS : Addr} {fd fdL fdF fdS : FuncData} {k : Nat} (F : Fun K "show_lock" "show_lock" sLock f fd) (FL : Fun K "lock_line" "lock_line" sLine fL fdL) (bL : Binds K fdL ["name", "held"] []) (gL : mg "lock_line" = some (.ref fL))
    (FF : Fun K "show_features" "show_features" sFts fF fdF) (bF : Binds K fdF ["word", "features"] []) (gF : mg "show_features" = some (.ref fF))
    (FS : Fun K "show_version" "show_version" sShow fS fdS) (bS : Binds K fdS ["version"] []) (gS : mg "show_version" = some (.ref fS)) (mT : mg "str" = none) (mS : mg "sorted" = none) : FnOk P w K mg base CX0 (k + 3) f fd ["lock"] spShowL := by
  have GL : FnOk P w K mg base CX0 (k + 2) fL fdL ["name", "held"] spLine := ok_line FL FF bF gF FS bS gS mT
  refine F.ok scLock (fun vs H Q E h => ?_) (fun cdv A outer s H vs Q E hr h => ?_)
  · obtain ⟨d, ks, L, rfl, _⟩ := h
    rfl
  · obtain ⟨d, ks, L, rfl, hd, hb, hl, q⟩ := h
    refine ⟨_, pss_one (ps_ret (pe_join pe_str (pe_lc (own := [("name", 1)]) (g := gName 1) rfl scLock.nd (pi_list (pe_callB (call_sortedD rfl) (by rfl) mS (by decide +kernel) (pa_cons (pv 0) pa_nil))) (blkOk_by (N := ["lock", "name"]) (sc := defScope sLock) (by decide +kernel))
      (fun _ _ _ _ _ => pg_name (i := 1) scLock.nd rfl (Or.inl rfl)) (fun _ _ _ _ _ => pts_nil) (fun _ _ _ _ _ => pe_call GL hr (by rfl) gL FL.kp bL .nil pass0 (pa_cons (pv 1) (pa_cons (pe_dget (Nat.lt_of_le_of_lt (Nat.add_le_add_left (by decide) _) hr.units) (pv 0) (pv 1) (fun _ _ => rfl)) pa_nil)))))), ?_⟩
    refine ⟨⟨_, rfl⟩, _, rfl, d, kk ks, L.map (·.1), rfl, .inl hd.at_, by rw [kk_keys, hd.en.keys], by rw [List.length_map]; omega, fun ys p pm ss np => ⟨p, rfl, ⟨_, .inl (.inl upd_same)⟩, fun D nD => ?_⟩⟩
    obtain ⟨S, pS, rfl⟩ := sort_of pm
    have s1 : Same H (upd H p (.lst ((S.map (·.1)).map V.str))) := new_same np
    have hp1 : upd H p (.lst ((S.map (·.1)).map V.str)) p = some (.lst ((S.map (·.1)).map V.str)) := upd_same
    generalize upd H p (.lst ((S.map (·.1)).map V.str)) = H1 at s1 hp1 nD ⊢
    have lS : S.length ≤ 40 := by rw [pS.length_eq]; exact hl
    refine lc_list (K := K) (a := p) (xs := (S.map (·.1)).map V.str) (fun i Hc => Hc D = some (.lst (((S.take i).map lineE).map V.str)) ∧ Same H1 Hc)
      ⟨by rw [List.take_zero]; exact upd_same, new_same nD⟩ (fun i Hc _ hP => .inl (.inl (hP.2 _ _ hp1))) (fun i x Hc hx hP => ?_) (fun Hc hP => ?_)
    · obtain ⟨h1, h2⟩ := hP
      rw [List.getElem?_map, List.getElem?_map] at hx
      cases hz : S[i]? with
      | none => rw [hz] at hx; cases hx
      | some z =>
        rw [hz] at hx
        cases hx
        have zS : z ∈ L := pS.mem_iff.mp (List.mem_of_getElem? hz)
        have dc := (hd.same s1).same h2
        obtain ⟨v, hv, ev⟩ := dc.get zS
        have hdg := DGet.k (k := Sum.inr z.1) dc.at_
        rw [hv] at hdg
        refine ⟨rfl, _, rfl, _, rfl, _, rfl, d, v, rfl, hdg, v, z, rfl, ev, hb z zS, fun H2 s2 => ⟨_, s2 _ _ h1, by rw [List.length_map, List.length_map, List.length_take, sizeLine_eq]; omega, ?_, fun y o h => ?_⟩⟩
        · rw [upd_same, List.take_add_one, hz, List.map_append, List.map_append]
          rfl
        · rw [upd_ne (ne_of_none h nD)]
          exact s2 _ _ (h2 y o h)
    · obtain ⟨h1, h2⟩ := hP
      rw [List.length_map, List.length_map, List.take_length] at h1
      have hbS : ∀ e ∈ S, VB e := fun e he => hb e (pS.mem_iff.mp he)
      exact ⟨Nl, D, S.map lineE, rfl, rfl, .inl (.inl (.inl h1)), lines_fit hbS lS, q Hc S (s1.trans h2) pS ss⟩
end
end V9
/-! Locks as lines: what the law shows. -/
namespace V9
open PySem PySem.Spec PyProof.Rows L2 TL
section
variable {X : Cx}
/-- a list != [] -/
theorem op_neL0 (hu : X.A.units < cLine) : OpR X (compareOp .NotEq) (fun x y H Q => ∃ (a b : Addr) (xs : List V), x = .ref a ∧ y = .ref b ∧ H a = some (.lst xs) ∧ H b = some (.lst []) ∧ Q (.bl (!xs.isEmpty)) H) := by
  intro pins s σ H x y v u Q I rx ry h
  obtain ⟨a, b, xs, rfl, rfl, ha, hb, q⟩ := h
  cases (show v = Value.ref a from rx)
  cases (show u = Value.ref b from ry)
  obtain ⟨i1, r1, p1, _⟩ := I.list (.inl (.inl ha))
  obtain ⟨i2, r2, p2, _⟩ := I.list (.inl (.inl hb))
  cases r2
  cases r1 with
  | nil => exact SeqAt.RcNeAt.lists (e := fun _ => true) p1.isList p2.isList rfl hu (fun j _ h2 => absurd h2 (Nat.not_lt_zero j)) _ _ _ _ ⟨.bl false, H, I, rfl, q⟩
  | cons c d => exact SeqAt.RcNeAt.lists_lengths p1.isList p2.isList (by simp) hu _ _ _ _ ⟨.bl true, H, I, rfl, q⟩
/-- a tuple != () -/
theorem op_neT0 (hu : X.A.units < cLine) : OpR X (compareOp .NotEq) (fun x y H Q => ∃ (a b : Addr) (xs : List V), x = .ref a ∧ y = .ref b ∧ SqT X.K H a xs ∧ SqT X.K H b [] ∧ Q (.bl (!xs.isEmpty)) H) := by
  intro pins s σ H x y v u Q I rx ry h
  obtain ⟨a, b, xs, rfl, rfl, ha, hb, q⟩ := h
  cases (show v = Value.ref a from rx)
  cases (show u = Value.ref b from ry)
  obtain ⟨i1, r1, p1, _⟩ := I.tuple ha
  obtain ⟨i2, r2, p2, _⟩ := I.tuple hb
  cases r2
  refine SeqAt.RcNeAt.tuples (e := fun _ => true) p1 p2 hu (fun j _ h2 => absurd h2 (Nat.not_lt_zero j)) _ _ _ _ ?_
  refine ⟨.bl (!xs.isEmpty), H, I, ?_, q⟩
  cases r1 with
  | nil => rfl
  | cons c d => simp [L2.RelV]
end
section
variable {P : Program} {w : World} {K : PySem.W.Frag} {mg : PySem.Str → Option Value} {base : Heap}
theorem cat_cat (fs : List PySem.Str) : ([V.str ";", V.str "with"] : List V) ++ fs.map V.str = ((";" : PySem.Str) :: ("with" : PySem.Str) :: fs).map V.str := rfl
theorem words_fit {e : E3} (vb : VB e) : ((wordsE e).map (·.length)).sum + (wordsE e).length * Bk.length ≤ 16777216 := by
  have h := fjoin_len vb.f vb.k
  have hb : Bk.length = 1 := by decide +kernel
  have h1 := said_len vb.v
  have h2 := vb.n
  have h3 := vb.k
  have a1 : ("lock" : PySem.Str).length = 4 := by decide +kernel
  have a2 : (";" : PySem.Str).length = 1 := by decide +kernel
  have a3 : ("with" : PySem.Str).length = 4 := by decide +kernel
  rw [hb] at h ⊢
  unfold wordsE
  split <;> simp only [List.map_cons, List.sum_cons, List.length_cons, List.map_nil, List.sum_nil, List.length_nil, a1, a2, a3] <;> omega
theorem ok_ltext {f fS : Addr} {fd fdS : FuncData} {k : Nat} (F : Fun K "_law_text_of_lock" "_law_text_of_lock" sLText f fd) (FS : Fun K "_law_shown_version" "_law_shown_version" sSaid fS fdS) (bS : Binds K fdS ["version"] []) (gS : mg "_law_shown_version" = some (.ref fS))
    (mT : mg "str" = none) (mS : mg "sorted" = none) (mLi : mg "list" = none) : FnOk P w K mg base CX0 (k + 2) f fd ["lock"] spShowL := by
  have GS : FnOk P w K mg base CX0 (k + 1) fS fdS ["version"] spSaid := ok_said FS mT
  refine F.ok scLText (fun vs H Q E h => ?_) (fun cdv A outer s H vs Q E hr h => ?_)
  · obtain ⟨d, ks, L, rfl, _⟩ := h
    rfl
  · obtain ⟨d, ks, L, rfl, hd, hb, hl, q⟩ := h
    refine ⟨_, pss_cons (ps_set (i := 1) scLText.nd rfl (.inl rfl) (pe_lst pa_nil))
      (pss_cons (ps_for PassesOwn.never rfl (pi_list (pe_callB (call_sortedD rfl) (by rfl) mS (by decide +kernel) (pa_cons (pv 0) pa_nil))) (pg_name (i := 2) scLText.nd rfl (Or.inl rfl))
        (pss_cons (ps_asg (pe_dget (Nat.lt_of_le_of_lt (Nat.add_le_add_left (by decide) _) hr.units) (pv 0) (pv 2) (fun _ _ => rfl)) (pg_tup rfl (pgs_cons (pg_name (i := 3) scLText.nd rfl (Or.inl rfl)) (pgs_cons (pg_name (i := 4) scLText.nd rfl (Or.inl rfl)) pgs_nil))))
        (pss_cons (ps_set (i := 5) scLText.nd rfl (.inl rfl) (pe_mid (pe_ifExp (pt_cmpR (op_neT0 (Nat.lt_of_le_of_lt (Nat.le_add_right _ _) hr.units)) (pv 4) (pe_tup pa_nil) (nomark _))
            (pe_op op_cat (pe_lst (pa_cons pe_str (pa_cons pe_str pa_nil))) (pe_callTy call_list_of (by rfl) mLi (by decide +kernel) (pa_cons (pv 4) pa_nil))) (pe_lst pa_nil))))
        (pss_one (ps_expr (pe_bm PySem.F.plainAttrs_list PySem.F.slot_list_append PySem.F.type_list_append mt_append (pv 1)
          (pa_cons (pe_join pe_str (pe_op op_cat (pe_lst (pa_cons pe_str (pa_cons (pv 2) (pa_cons (pe_call GS hr (by rfl) gS FS.kp bS .nil pass0 (pa_cons (pv 3) pa_nil)) pa_nil)))) (pv 5))) pa_nil)))))))
      (pss_one (ps_ret (pe_join pe_str (pv 1))))), ?_⟩
    refine ⟨by show 0 ≤ sizeLine; exact Nat.zero_le _, fun l nl => ?_⟩
    have s0 : Same H (upd H l (.lst [])) := new_same nl
    have hl0 : upd H l (.lst []) l = some (.lst []) := upd_same
    generalize upd H l (.lst []) = H0 at s0 hl0 ⊢
    have hd0 := hd.same s0
    refine ⟨_, rfl, d, kk ks, L.map (·.1), rfl, .inl hd0.at_, by rw [kk_keys, hd.en.keys], by rw [List.length_map]; omega, fun ys p pm ss np => ⟨p, rfl, ⟨_, .inl (.inl upd_same)⟩, ?_⟩⟩
    obtain ⟨S, pS, rfl⟩ := sort_of pm
    have s1 : Same H0 (upd H0 p (.lst ((S.map (·.1)).map V.str))) := new_same np
    have hp1 : upd H0 p (.lst ((S.map (·.1)).map V.str)) p = some (.lst ((S.map (·.1)).map V.str)) := upd_same
    have lp : p ≠ l := fun e => by rw [e, hl0] at np; cases np
    have hl1 := s1 _ _ hl0
    have hd1 := hd0.same s1
    have dl : d ≠ l := fun e => by rw [e] at hd; rw [hd.at_] at nl; cases nl
    have lS : S.length ≤ 40 := by rw [pS.length_eq]; exact hl
    have sH : Same H (upd H0 p (.lst ((S.map (·.1)).map V.str))) := s0.trans s1
    generalize upd H0 p (.lst ((S.map (·.1)).map V.str)) = H1 at s1 hp1 hl1 hd1 sH ⊢
    refine for_list (K := K) (a := p) (xs := (S.map (·.1)).map V.str) (fun i σ' Hc => (∃ y1 y2 y3 y4, σ' = [some (.ref d), some (.ref l), y1, y2, y3, y4]) ∧ Hc l = some (.lst (((S.take i).map lineE).map V.str)) ∧ ∀ x o, x ≠ l → H1 x = some o → Hc x = some o)
      ⟨⟨_, _, _, _, rfl⟩, by rw [List.take_zero]; exact hl1, fun x o _ e => e⟩ (fun i σ' Hc _ hP => .inl (.inl (hP.2.2 _ _ lp hp1))) (fun i x σ' Hc hx hP => ?_) (fun σ' Hc hP => ?_)
    · obtain ⟨⟨y1, y2, y3, y4, rfl⟩, h1, h2⟩ := hP
      rw [List.getElem?_map, List.getElem?_map] at hx
      cases hz : S[i]? with
      | none => rw [hz] at hx; cases hx
      | some z =>
        rw [hz] at hx
        cases hx
        have zS : z ∈ L := pS.mem_iff.mp (List.mem_of_getElem? hz)
        have kc : KT H1 Hc := fun a xs e => h2 _ _ (fun z => by rw [z, hl1] at e; cases e) e
        have dc : DW Hc d ks L := ⟨h2 _ _ dl hd1.at_, hd1.nd, hd1.en.kt kc⟩
        obtain ⟨v, hv, ev⟩ := dc.get zS
        have hdg := DGet.k (k := Sum.inr z.1) dc.at_
        rw [hv] at hdg
        obtain ⟨a, p1, q1, rfl, ha, hp, hq⟩ := ev
        have vb := hb z zS
        refine ⟨_, rfl, _, rfl, d, .ref a, rfl, hdg, a, _, rfl, .inl (.inl ha), rfl, _, _, rfl, _, _, rfl, rfl, ?_⟩
        refine ⟨fun u H' => ∃ m, u = .ref m ∧ H' m = some (.lst ((if z.2.2 = [] then [] else (";" : PySem.Str) :: "with" :: z.2.2).map V.str)) ∧ Same Hc H', ?_, ?_⟩
        · refine ⟨_, rfl, by show 0 ≤ sizeLine; exact Nat.zero_le _, fun t nt => ⟨q1, t, z.2.2.map V.str, rfl, rfl, .inl (.inl (new_ne hq nt)), .inl (.inl upd_same), ?_⟩⟩
          have s2 : Same Hc (upd Hc t (.tup [])) := new_same nt
          generalize upd Hc t (.tup []) = H2 at s2 ⊢
          by_cases hn : z.2.2 = []
          · rw [hn]
            refine ⟨_, rfl, by show 0 ≤ sizeLine; exact Nat.zero_le _, fun m nm => ⟨m, rfl, by rw [if_pos rfl]; exact upd_same, s2.trans (new_same nm)⟩⟩
          · rw [if_neg hn]
            have e1 : (!(z.2.2.map V.str).isEmpty) = true := by cases h : z.2.2 with | nil => exact absurd h hn | cons _ _ => rfl
            rw [e1]
            refine ⟨_, rfl, by show 2 ≤ sizeLine; decide, fun m nm => ⟨_, rfl, q1, _, rfl, .inr (.inl (.inl (new_ne (s2 _ _ hq) nm))), fun m2 nm2 => ⟨m, m2, _, _, rfl, rfl, new_ne upd_same nm2, upd_same, ?_, fun m3 nm3 => ⟨m3, rfl, upd_same, ((s2.trans (new_same nm)).trans (new_same nm2)).trans (new_same nm3)⟩⟩⟩⟩
            have := vb.k
            rw [List.length_map, sizeLine_eq]
            show 2 + _ ≤ _
            omega
        · rintro u H2 ⟨m, rfl, hm, s2⟩
          refine ⟨_, rfl, .inl ⟨rfl, _, .inl (.inl (s2 _ _ h1))⟩, ?_⟩
          have hp2 := s2 _ _ hp
          refine ⟨⟨_, rfl⟩, _, rfl, _, rfl, p1, z.2.1, rfl, hp2, vb.v, fun H3 s3 => ⟨by show 3 ≤ sizeLine; decide, fun m4 nm4 => ⟨_, rfl, m4, m, _, _, rfl, rfl, upd_same, new_ne (s3 _ _ hm) nm4, ?_, fun m5 nm5 => ?_⟩⟩⟩
          · have := vb.k
            rw [List.length_map, sizeLine_eq]
            show 3 + _ ≤ _
            split
            · show 3 + 0 ≤ _; omega
            · show 3 + (z.2.2.length + 1 + 1) ≤ _; omega
          · have s5 : Same Hc (upd (upd H3 m4 (.lst [.str "lock", .str z.1, .str (said z.2.1)])) m5 (.lst ([V.str "lock", .str z.1, .str (said z.2.1)] ++ (if z.2.2 = [] then [] else (";" : PySem.Str) :: "with" :: z.2.2).map V.str))) := ((s2.trans s3).trans (new_same nm4)).trans (new_same nm5)
            have hm5 : upd (upd H3 m4 (.lst [.str "lock", .str z.1, .str (said z.2.1)])) m5 (.lst ([V.str "lock", .str z.1, .str (said z.2.1)] ++ (if z.2.2 = [] then [] else (";" : PySem.Str) :: "with" :: z.2.2).map V.str)) m5 = some (.lst ((wordsE z).map V.str)) := upd_same
            generalize upd (upd H3 m4 (.lst [.str "lock", .str z.1, .str (said z.2.1)])) m5 (.lst ([V.str "lock", .str z.1, .str (said z.2.1)] ++ (if z.2.2 = [] then [] else (";" : PySem.Str) :: "with" :: z.2.2).map V.str)) = H5 at s5 hm5 ⊢
            refine ⟨Bk, m5, wordsE z, rfl, rfl, .inl (.inl (.inl hm5)), words_fit vb, l, _, _, rfl, rfl, s5 _ _ h1, by rw [List.length_map, List.length_map, List.length_take, sizeLine_eq]; omega, ⟨_, _, _, _, rfl⟩, ?_, fun x o n e => by rw [upd_ne n]; exact s5 _ _ (h2 x o n e)⟩
            rw [upd_same, List.take_add_one, hz, List.map_append, List.map_append]
            rfl
    · obtain ⟨⟨y1, y2, y3, y4, rfl⟩, h1, h2⟩ := hP
      rw [List.length_map, List.length_map, List.take_length] at h1
      have hbS : ∀ e ∈ S, VB e := fun e he => hb e (pS.mem_iff.mp he)
      exact ⟨⟨_, rfl⟩, _, rfl, Nl, l, S.map lineE, rfl, rfl, .inl (.inl (.inl h1)), lines_fit hbS lS, q Hc S (fun x o e => h2 x o (fun z => by rw [z] at e; rw [e] at nl; cases nl) (sH x o e)) pS ss⟩
end
end V9
/-! Lots of names. -/
namespace V9
open PySem PySem.Spec PyProof.Rows L2 TL
section
variable {X : Cx} {CX : CXT} {E : XK} {f : Addr} {fd : FuncData} {ps : List PySem.Str} {sp : Sp} {k i : Nat} {x : PySem.Str} {e : Expr} {es : List Expr} {t : TA} {p pos : Pos}
/-- a call of a local name that holds a module's def -/
def tCallV (i : Nat) (f : Addr) (sp : Sp) (E : XK) (t : TA) : TE := fun σ H Q => σ[i]? = some (some (.ref f)) ∧ t σ H fun vs H1 => sp (vs ++ []) H1 Q E
theorem pe_callv (F : FnOk X.prog X.w X.K X.mg X.base CX k f fd ps sp) (hr : Room k X.A) (hk : PySem.W.keepIn X.K (.ref f) = true) (hb : Binds X.K fd ps []) (hx : Passes CX X E) (ha : PA X (e :: es) t)
    (hN : X.N[i]? = some x := by rfl) (hv : Vis X.env.scope x := by first | exact Or.inl rfl | exact Or.inr (Or.inl rfl) | exact Or.inr (Or.inr rfl)) (hd : (x == ("__debug__" : PySem.Str)) = false := by decide) (hcd : (x == ("__classdict__" : PySem.Str)) = false := by decide)
    (he : starEach (e :: es) X.env = (false, eval e X.env) :: starEach es X.env := by rfl) (hpl : (backTo pos (starEach es X.env)).any (·.1) = false := by rfl) :
    PE X (.Call (.Name x p) (e :: es) [] pos) (tCallV i f sp E t) := by
  refine ⟨fun pins s σ H Q I h => ?_⟩
  obtain ⟨hs, ht⟩ := h
  refine wpAny_Call_Name_kw (thn ((pe_var (pos := p) hN hv hd hcd).run pins s σ H (fun v H1 => v = .ref f ∧ H1 = H) I ⟨.ref f, hs, rfl, rfl⟩) fun u s1 ⟨v, H1, I1, r1, q1⟩ => ?_)
  obtain ⟨ev, eH⟩ := q1
  subst ev
  rw [eH] at I1
  obtain rfl : u = Value.ref f := r1
  refine PySem.W.callWith_K (h₀ := X.base) I.ok.mod.kin hk (thn (ha.run pos pins s1 σ H _ I1 ht) fun us s2 ⟨vs, H2, I2, r, q⟩ => ⟨I2.kIn, ?_⟩) he hpl
  exact run_fn F hr hb .nil hx I2 r q
end
def ascB (fs : List PySem.Str) : List Bool := List.zipWith (fun a b => decide (a.cps.toList < b.cps.toList)) fs fs.tail
theorem asc_len (fs : List PySem.Str) : (ascB fs).length = fs.length - 1 := by
  unfold ascB
  rw [List.length_zipWith, List.length_tail]
  omega
theorem asc_iff : ∀ fs : List PySem.Str, (ascB fs).all id = true ↔ fs.Pairwise fun a b => a.cps.toList < b.cps.toList
  | [] => by simp [ascB]
  | [a] => by simp [ascB]
  | a :: b :: r => by
    have ih := asc_iff (b :: r)
    have e : ascB (a :: b :: r) = decide (a.cps.toList < b.cps.toList) :: ascB (b :: r) := rfl
    rw [e, List.all_cons, Bool.and_eq_true, ih]
    refine ⟨fun ⟨h1, h2⟩ => ?_, fun h => ?_⟩
    · have h1' : a.cps.toList < b.cps.toList := of_decide_eq_true h1
      refine List.Pairwise.cons (fun c hc => ?_) h2
      rcases List.mem_cons.mp hc with z | z
      · rw [z]; exact h1'
      · exact List.lt_trans h1' ((List.pairwise_cons.mp h2).1 c z)
    · obtain ⟨h1, h2⟩ := List.pairwise_cons.mp h
      exact ⟨decide_eq_true (h1 b List.mem_cons_self), h2⟩
theorem pair_rising : ∀ (r : List PySem.Str) (x : PySem.Str), (x :: r).Pairwise (fun a b => a.cps.toList < b.cps.toList) → risingS x r = true
  | [], _, _ => rfl
  | y :: r, x, h => by
    obtain ⟨h1, h2⟩ := List.pairwise_cons.mp h
    have z : x.cps.toList < y.cps.toList := h1 y List.mem_cons_self
    have ih := pair_rising r y h2
    unfold risingS
    rw [ih]
    have z2 : ¬ y.cps.toList < x.cps.toList := fun q => List.lt_irrefl _ (List.lt_trans z q)
    rw [ltCps_eq, decide_eq_false z2]
    rfl
theorem asc_all (fs : List PySem.Str) : (ascB fs).all id = true ↔ TX.Asc fs := by
  rw [asc_iff]
  refine ⟨fun h => ⟨?_, ?_⟩, fun h => ?_⟩
  · cases fs with
    | nil => rfl
    | cons x r => exact pair_rising r x h
  · exact h.imp fun z e => by rw [e] at z; exact absurd z (List.lt_irrefl _)
  · have p1 := TX.sorted_pair h.1
    have p2 : fs.Pairwise (· ≠ ·) := h.2
    refine (p1.and p2).imp fun {a b} ⟨z1, z2⟩ => ?_
    by_cases q : a.cps.toList < b.cps.toList
    · exact q
    · exact absurd (TX.str_ext (List.le_antisymm z1 (List.not_lt.mp q))) z2
abbrev sAscd : Stmt := topS 14
abbrev sAll : Stmt := topS 15
abbrev sLot : Stmt := topS 16
theorem scAscd : FnScope ["row", "at"] ["row"] (defScope sAscd) := ⟨rfl, rfl, rfl, by decide +kernel, rfl, by decide +kernel, by decide +kernel⟩
theorem scAll : FnScope ["thing", "test", "part"] ["thing", "test"] (defScope sAll) := ⟨rfl, rfl, rfl, by decide +kernel, rfl, by decide +kernel, by decide +kernel⟩
theorem scLot : FnScope ["thing"] ["thing"] (defScope sLot) := ⟨rfl, rfl, rfl, by decide +kernel, rfl, by decide +kernel, by decide +kernel⟩
section
variable {P : Program} {w : World} {K : PySem.W.Frag} {mg : PySem.Str → Option Value} {base : Heap}
def spAscd : Sp := fun vs H Q _ => ∃ (q : Addr) (fs : List PySem.Str), vs = [.ref q] ∧ H q = some (.tup (fs.map V.str)) ∧ fs.length ≤ 1000000 ∧ ∀ H', Same H H' → Q (.bl ((ascB fs).all id)) H'
theorem ok_ascd {f : Addr} {fd : FuncData} {k : Nat} (F : Fun K "is_ascending" "is_ascending" sAscd f fd) (mL : mg "len" = none) (mA : mg "all" = none) (mR : mg "range" = none) : FnOk P w K mg base CX0 (k + 1) f fd ["row"] spAscd := by
  refine F.ok scAscd (fun vs H Q E h => ?_) (fun cdv A outer s H vs Q E hr h => ?_)
  · obtain ⟨q, fs, rfl, _⟩ := h
    rfl
  · obtain ⟨p, fs, rfl, hp, hl, q⟩ := h
    refine ⟨_, pss_one (ps_ret (pe_callB (cr_all rfl) (by rfl) mA (by decide +kernel) (pa_cons (pe_lc (own := [("at", 1)]) (g := gName 1) rfl scAscd.nd
      (pi_range1 (by rfl) mR (pa_cons (pe_sub (pe_callB call_len_seq (by rfl) mL PySem.boot_len (pa_cons (pv 0) pa_nil)) pe_int) pa_nil)) (blkOk_by (N := ["row", "at"]) (sc := defScope sAscd) (by decide +kernel))
      (fun _ _ _ _ _ => pg_name (i := 1) scAscd.nd rfl (Or.inl rfl)) (fun _ _ _ _ _ => pts_nil)
      (fun _ _ _ _ _ => pe_cmpR op_lt_str (pe_ix (show IxR _ (rIxT K) from ix_tup) (pv 0) (pv 1) (fun _ _ => rfl)) (pe_ix (show IxR _ (rIxT K) from ix_tup) (pv 0) (pe_add (pv 1) pe_int) (fun _ _ => rfl)) (nomark _))) pa_nil))), ?_⟩
    have hz : sizeLine = 16777216 := sizeLine_eq
    refine ⟨_, rfl, p, fs.map V.str, rfl, .inr (.inl (.inl hp)), (fs.map V.str).length, 1, rfl, rfl, ((fs.map V.str).length : Int) - 1, rfl, by rw [List.length_map]; omega, by rw [List.length_map]; omega, fun Dl nD => ?_⟩
    rw [List.length_map]
    have en : ((fs.length : Int) - 1).toNat = (ascB fs).length := by rw [asc_len]; omega
    refine lc_range (lo := 0) (n := ((fs.length : Int) - 1).toNat) (fun j Hc => Hc Dl = some (.lst (((ascB fs).take j).map V.bl)) ∧ Same H Hc) ⟨by rw [List.take_zero]; exact upd_same, new_same nD⟩ ?_ (fun Hc hP => ?_)
    · rintro i Hc hi ⟨c1, c2⟩
      have hp' := c2 _ _ hp
      obtain ⟨a, ha⟩ : ∃ a, fs[i]? = some a := ⟨_, List.getElem?_eq_getElem (by omega)⟩
      obtain ⟨b, hb⟩ : ∃ b, fs[i + 1]? = some b := ⟨_, List.getElem?_eq_getElem (by omega)⟩
      have hab : (ascB fs)[i]? = some (decide (a.cps.toList < b.cps.toList)) := by
        unfold ascB
        rw [List.getElem?_zipWith, ha, List.getElem?_tail, hb]
      refine ⟨rfl, _, rfl, _, rfl, p, fs.map V.str, ((i : Nat) : Int), .str a, rfl, by rw [Int.zero_add], .inl (.inl hp'), atI_nat (by rw [List.getElem?_map, ha]; rfl), ?_⟩
      refine ⟨_, rfl, _, rfl, _, _, rfl, rfl, p, fs.map V.str, ((i + 1 : Nat) : Int), .str b, rfl, by rw [Int.zero_add]; rfl, .inl (.inl hp'), atI_nat (by rw [List.getElem?_map, hb]; rfl), a, b, rfl, rfl, ?_⟩
      refine ⟨_, c1, by rw [List.length_map, List.length_take]; omega, ?_, fun y o h => ?_⟩
      · rw [upd_same, List.take_add_one, hab, List.map_append]
        rfl
      · rw [upd_ne (ne_of_none h nD)]
        exact c2 y o h
    · obtain ⟨c1, c2⟩ := hP
      rw [en, List.take_length] at c1
      refine ⟨Dl, ascB fs, rfl, .inl (.inl c1), q Hc c2⟩
def spAll (fN : Addr) : Sp := fun vs H Q _ => ∃ (q : Addr) (fs : List PySem.Str), vs = [.ref q, .ref fN] ∧ H q = some (.tup (fs.map V.str)) ∧ fs.length ≤ 1000000 ∧ (∀ x ∈ fs, x.length ≤ 1000000) ∧ ∀ H', Same H H' → Q (.bl (fs.all isName)) H'
theorem ok_all {f fN : Addr} {fd fdN : FuncData} {k : Nat} (F : Fun K "is_all_of" "is_all_of" sAll f fd) (FN : Fun K "is_name" "is_name" sIsName fN fdN) (bN : Binds K fdN ["thing"] []) {t1 t2 t3 : Tok} (gL : mg "LONGEST_NAME" = some (.int 20 t1)) (gA : mg "LETTERS" = some (.str Lt t2)) (gN : mg "NAME_SIGNS" = some (.str Nz t3))
    (mS : mg "isinstance" = none) (mT : mg "str" = none) (mL : mg "len" = none) (mA : mg "all" = none) (mU : mg "tuple" = none) : FnOk P w K mg base CX0 (k + 2) f fd ["thing", "test"] (spAll fN) := by
  have GN : FnOk P w K mg base CX0 (k + 1) fN fdN ["thing"] spIsN := ok_isname FN gL gA gN mS mT mL mA
  refine F.ok scAll (fun vs H Q E h => ?_) (fun cdv A outer s H vs Q E hr h => ?_)
  · obtain ⟨q, fs, rfl, _⟩ := h
    rfl
  · obtain ⟨p, fs, rfl, hp, hl, hx, q⟩ := h
    refine ⟨_, pss_one (ps_ret (pe_and (pe_callB call_isi (by rfl) mS (by decide +kernel) (pa_cons (pv 0) (pa_cons (pe_bltn (v := .ty "tuple") (u := .type "tuple") (by rfl) mU (by decide +kernel) rfl) pa_nil)))
      (pe_one (pe_callB (cr_all rfl) (by rfl) mA (by decide +kernel) (pa_cons (pe_lc (own := [("part", 2)]) (g := gName 2) rfl scAll.nd (pi_tup (pv 0)) (blkOk_by (N := ["thing", "test", "part"]) (sc := defScope sAll) (by decide +kernel))
        (fun _ _ _ _ _ => pg_name (i := 2) scAll.nd rfl (Or.inl rfl)) (fun _ _ _ _ _ => pts_nil) (fun _ _ _ _ _ => pe_callv (i := 1) GN hr FN.kp bN pass0 (pa_cons (pv 2) pa_nil))) pa_nil))))), ?_⟩
    obtain ⟨_, _, _, t4⟩ := kits K "tuple" (by decide)
    refine ⟨_, rfl, .ref p, .ty "tuple", _, _, _, rfl, .ty "tuple", .base (.tup hp), t4, _, rfl, ?_⟩
    rw [if_pos (by decide)]
    have hz : sizeLine = 16777216 := sizeLine_eq
    refine ⟨_, rfl, p, rfl, ⟨_, .inl (.inl hp)⟩, fun Dl nD => ?_⟩
    refine lc_it (walk_tup (xs := fs.map V.str)) (fun j Hc => Hc Dl = some (.lst ((fs.take j).map fun x => .bl (isName x))) ∧ Same H Hc) ⟨by rw [List.take_zero]; exact upd_same, new_same nD⟩ (fun j Hc _ hP => .inl (.inl (hP.2 _ _ hp))) ?_ (fun Hc hP => ?_)
    · rintro j v Hc H' hj ⟨c1, c2⟩ ⟨rfl, hv⟩
      rw [List.getElem?_map] at hv
      obtain ⟨x, hx0, rfl⟩ := Option.map_eq_some_iff.mp hv
      have lj : j ≤ 1000000 := by rw [List.length_map] at hj; omega
      refine ⟨rfl, rfl, _, rfl, x, rfl, hx x (List.mem_of_getElem? hx0), fun H2 s2 => ⟨_, s2 _ _ c1, by rw [List.length_map, List.length_take]; omega, ?_, fun y o h => ?_⟩⟩
      · rw [upd_same, List.take_add_one, hx0, List.map_append]
        rfl
      · rw [upd_ne (ne_of_none h nD)]
        exact s2 _ _ (c2 y o h)
    · obtain ⟨c1, c2⟩ := hP
      rw [List.length_map, List.take_length] at c1
      refine ⟨Dl, fs.map isName, rfl, .inl (.inl (by rw [c1, List.map_map]; rfl)), ?_⟩
      rw [List.all_map]
      exact q Hc c2
def lotB (fs : List PySem.Str) : Bool := fs.all isName && (ascB fs).all id
theorem lot_iff (fs : List PySem.Str) : lotB fs = true ↔ (∀ x ∈ fs, isName x = true) ∧ TX.Asc fs := by
  unfold lotB
  rw [Bool.and_eq_true, asc_all, List.all_eq_true]
def spLot : Sp := fun vs H Q _ => ∃ (q : Addr) (fs : List PySem.Str), vs = [.ref q] ∧ H q = some (.tup (fs.map V.str)) ∧ fs.length ≤ 1000000 ∧ (∀ x ∈ fs, x.length ≤ 1000000) ∧ ∀ H', Same H H' → Q (.bl (lotB fs)) H'
theorem ok_lot {f fA fN fC : Addr} {fd fdA fdN fdC : FuncData} {k : Nat} (F : Fun K "is_lot_of_names" "is_lot_of_names" sLot f fd) (FA : Fun K "is_all_of" "is_all_of" sAll fA fdA) (bA : Binds K fdA ["thing", "test"] []) (gAl : mg "is_all_of" = some (.ref fA))
    (FC : Fun K "is_ascending" "is_ascending" sAscd fC fdC) (bC : Binds K fdC ["row"] []) (gC : mg "is_ascending" = some (.ref fC))
    (FN : Fun K "is_name" "is_name" sIsName fN fdN) (bN : Binds K fdN ["thing"] []) (gNm : mg "is_name" = some (.ref fN)) {t1 t2 t3 : Tok} (gL : mg "LONGEST_NAME" = some (.int 20 t1)) (gA : mg "LETTERS" = some (.str Lt t2)) (gN : mg "NAME_SIGNS" = some (.str Nz t3))
    (mS : mg "isinstance" = none) (mT : mg "str" = none) (mL : mg "len" = none) (mA : mg "all" = none) (mU : mg "tuple" = none) (mR : mg "range" = none) : FnOk P w K mg base CX0 (k + 3) f fd ["thing"] spLot := by
  have GA : FnOk P w K mg base CX0 (k + 2) fA fdA ["thing", "test"] (spAll fN) := ok_all FA FN bN gL gA gN mS mT mL mA mU
  have GC : FnOk P w K mg base CX0 (k + 2) fC fdC ["row"] spAscd := ok_ascd FC mL mA mR
  refine F.ok scLot (fun vs H Q E h => ?_) (fun cdv A outer s H vs Q E hr h => ?_)
  · obtain ⟨q, fs, rfl, _⟩ := h
    rfl
  · obtain ⟨p, fs, rfl, hp, hl, hx, q⟩ := h
    refine ⟨_, pss_one (ps_ret (pe_and (pe_call GA hr (by rfl) gAl FA.kp bA .nil pass0 (pa_cons (pv 0) (pa_cons (pe_glob (v := .ref fN) (by rfl) gNm rfl) pa_nil)))
      (pe_one (pe_call GC hr (by rfl) gC FC.kp bC .nil pass0 (pa_cons (pv 0) pa_nil))))), ?_⟩
    refine ⟨_, rfl, p, fs, rfl, hp, hl, hx, fun H1 s1 => ⟨_, rfl, ite2 (fun e => ?_) (fun e => ?_)⟩⟩
    · refine ⟨_, rfl, p, fs, rfl, s1 _ _ hp, hl, fun H2 s2 => ?_⟩
      have z := q H2 (s1.trans s2)
      unfold lotB at z
      rw [e] at z
      exact z
    · have e' : fs.all isName = false := by simpa using e
      have z := q H1 s1
      unfold lotB at z
      rw [e'] at z
      exact z
end
end V9
/-! What the words of a line tell, to the program. -/
namespace V9
open PySem PySem.Spec PyProof.Rows L2 TL
section
variable {X : Cx}
theorem op_notInTD (hu : X.A.units + 64 < cLine) : OpR X (compareOp .NotIn) (fun x y H Q => ∃ d ds, Dp X.K H x d ∧ Dp X.K H y (.tuple ds) ∧ SeqAt.shaped d = true ∧ SeqAt.shaped (.tuple ds) = true ∧ d.depth ≤ 60 ∧ Q (.bl (!ds.any fun z => PyData.eqv z d)) H) := by
  intro pins s σ H x y v u Q I rx ry h
  obtain ⟨d, ds, hd, he, sd, se, dp, q⟩ := h
  obtain ⟨as, r1⟩ := Dp.reads I d x v hd rx
  obtain ⟨bs, r2⟩ := Dp.reads I (.tuple ds) y u he ry
  exact SeqAt.notIn_tuple_reads r2 r1 (SeqAt.canLay_of_shaped se) (SeqAt.canLay_of_shaped sd) (by have := Nat.min_le_right (PyData.depthAll ds) d.depth; omega) ⟨.bl _, H, I, rfl, q⟩
end
/-- a text that is carried -/
def Tx (x : PySem.Str) : Prop := x.length ≤ 900000 ∧ ∀ c ∈ tl x, c < 0x110000
theorem Tx.lay {x : PySem.Str} (h : Tx x) : (PyData.str x).canLay0 = true := by
  show x.cps.all (· < 0x110000) = true
  rw [← Array.all_toList, List.all_eq_true]
  exact fun c hc => decide_eq_true (h.2 c hc)
theorem lay_txs : ∀ fs : List PySem.Str, (∀ x ∈ fs, Tx x) → PyData.canLayAll0 (fs.map PyData.str) = true ∧ PyData.depthAll (fs.map PyData.str) = 0
  | [], _ => ⟨rfl, rfl⟩
  | x :: fs, h => by
    obtain ⟨h1, h2⟩ := lay_txs fs fun y hy => h y (List.mem_cons_of_mem _ hy)
    refine ⟨?_, ?_⟩
    · show ((PyData.str x).canLay0 && PyData.canLayAll0 (fs.map PyData.str)) = true
      rw [(h x List.mem_cons_self).lay, h1]; rfl
    · show max 0 (PyData.depthAll (fs.map PyData.str)) = 0
      rw [h2]; rfl
theorem shaped_txs {fs : List PySem.Str} (h : ∀ x ∈ fs, Tx x) : SeqAt.shaped (.list (fs.map PyData.str)) = true := by
  obtain ⟨h1, h2⟩ := lay_txs fs h
  unfold SeqAt.shaped
  have c2 : (PyData.list (fs.map PyData.str)).depth = 1 := by
    show PyData.depthAll (fs.map PyData.str) + 1 = 1
    rw [h2]
  have c1 : (PyData.list (fs.map PyData.str)).canLay0 = true := h1
  rw [c1, c2]
  rfl
theorem eqv_strs : ∀ xs ys : List PySem.Str, PyData.eqvAll (xs.map PyData.str) (ys.map PyData.str) = true ↔ xs = ys
  | [], [] => ⟨fun _ => rfl, fun _ => rfl⟩
  | [], _ :: _ => ⟨fun h => (by cases h), fun h => (by cases h)⟩
  | _ :: _, [] => ⟨fun h => (by cases h), fun h => (by cases h)⟩
  | x :: xs, y :: ys => by
    have e : PyData.eqvAll ((x :: xs).map PyData.str) ((y :: ys).map PyData.str) = ((x == y) && PyData.eqvAll (xs.map PyData.str) (ys.map PyData.str)) := rfl
    rw [e, Bool.and_eq_true, eqv_strs xs ys, beq_iff_eq, List.cons.injEq]
theorem cut35 (xs : List V) : cutV xs (some 3) (some 5) = (xs.drop 3).take 2 := by
  show (xs.drop (HT.sIx xs.length 0 (some ((3 : Nat) : Int)))).take (HT.sIx xs.length xs.length (some ((5 : Nat) : Int)) - HT.sIx xs.length 0 (some ((3 : Nat) : Int))) = _
  rw [HT.sIx_nat, HT.sIx_nat]
  by_cases h : xs.length ≤ 3
  · rw [List.drop_eq_nil_of_le h, List.drop_eq_nil_of_le (by omega), List.take_nil, List.take_nil]
  · have e3 : min 3 xs.length = 3 := by omega
    rw [e3]
    by_cases h5 : 5 ≤ xs.length
    · have e5 : min 5 xs.length = 5 := by omega
      rw [e5]
    · rw [List.take_of_length_le (by rw [List.length_drop]; omega), List.take_of_length_le (by rw [List.length_drop]; omega)]
theorem cut5 (xs : List V) : cutV xs (some 5) none = xs.drop 5 := by
  show (xs.drop (HT.sIx xs.length 0 (some ((5 : Nat) : Int)))).take (HT.sIx xs.length xs.length none - HT.sIx xs.length 0 (some ((5 : Nat) : Int))) = _
  rw [HT.sIx_nat, HT.sIx_none, List.take_of_length_le (by rw [List.length_drop]; omega)]
  by_cases h : xs.length ≤ 5
  · rw [List.drop_eq_nil_of_le (show xs.length ≤ 5 from h), List.drop_eq_nil_of_le (by omega)]
  · have e3 : min 5 xs.length = 5 := by omega
    rw [e3]
/-- what is told of a line -/
def E3At (H : Hp) (v : V) (e : E3) : Prop := ∃ a p q, v = .ref a ∧ H a = some (.tup [.str e.1, .ref p, .ref q]) ∧ H p = some (.tup (e.2.1.map V.int)) ∧ H q = some (.tup (e.2.2.map V.str))
def OE (H : Hp) (v : V) (ws : List PySem.Str) : Prop := (∃ e, Pln ws e ∧ E3At H v e) ∨ (v = .non ∧ ∀ e, ¬ Pln ws e)
abbrev sHeld : Stmt := topS 22
theorem scHeld : FnScope ["words", "version", "features"] ["words"] (defScope sHeld) := ⟨rfl, rfl, rfl, by decide +kernel, rfl, by decide +kernel, by decide +kernel⟩
/-- the program's defs of names and versions -/
structure Pn (K : PySem.W.Frag) (mg : PySem.Str → Option Value) (fN fT fS fL fA fC : Addr) (dN dT dS dL dA dC : FuncData) (t1 t2 t3 t4 t5 : Tok) : Prop where
  FN : Fun K "is_name" "is_name" sIsName fN dN
  bN : Binds K dN ["thing"] []
  gN : mg "is_name" = some (.ref fN)
  FT : Fun K "version_told" "version_told" sTold fT dT
  bT : Binds K dT ["text"] []
  gT : mg "version_told" = some (.ref fT)
  FS : Fun K "is_shown_number" "is_shown_number" sShown fS dS
  bS : Binds K dS ["word"] []
  gS : mg "is_shown_number" = some (.ref fS)
  FL : Fun K "is_lot_of_names" "is_lot_of_names" sLot fL dL
  bL : Binds K dL ["thing"] []
  gL : mg "is_lot_of_names" = some (.ref fL)
  FA : Fun K "is_all_of" "is_all_of" sAll fA dA
  bA : Binds K dA ["thing", "test"] []
  gA : mg "is_all_of" = some (.ref fA)
  FC : Fun K "is_ascending" "is_ascending" sAscd fC dC
  bC : Binds K dC ["row"] []
  gC : mg "is_ascending" = some (.ref fC)
  g20 : mg "LONGEST_NAME" = some (.int 20 t1)
  gLt : mg "LETTERS" = some (.str Lt t2)
  gNz : mg "NAME_SIGNS" = some (.str Nz t3)
  g6 : mg "MOST_FIGURES" = some (.int 6 t4)
  gFg : mg "FIGURES" = some (.str Fg t5)
  mS : mg "isinstance" = none
  mT : mg "str" = none
  mL : mg "len" = none
  mA : mg "all" = none
  mU : mg "tuple" = none
  mR : mg "range" = none
  mI : mg "int" = none
section
variable {P : Program} {w : World} {K : PySem.W.Frag} {mg : PySem.Str → Option Value} {base : Heap}
variable {fN fT fS fL fA fC : Addr} {dN dT dS dL dA dC : FuncData} {t1 t2 t3 t4 t5 : Tok}
def spHeld : Sp := fun vs H Q _ => ∃ (p : Addr) (ws : List PySem.Str), vs = [.ref p] ∧ H p = some (.lst (ws.map V.str)) ∧ ws.length ≤ 900000 ∧ (∀ x ∈ ws, Tx x) ∧ ∀ H' v, Same H H' → OE H' v ws → Q v H'
theorem ok_held {f : Addr} {fd : FuncData} {k : Nat} (F : Fun K "held_told" "held_told" sHeld f fd) (T : Pn K mg fN fT fS fL fA fC dN dT dS dL dA dC t1 t2 t3 t4 t5) : FnOk P w K mg base CX0 (k + 4) f fd ["words"] spHeld := by
  have GN : FnOk P w K mg base CX0 (k + 3) fN dN ["thing"] spIsN := ok_isname T.FN T.g20 T.gLt T.gNz T.mS T.mT T.mL T.mA
  have GT : FnOk P w K mg base CX0 (k + 3) fT dT ["text"] spTold := ok_told T.FT T.FS T.bS T.gS T.g6 T.gFg T.mL T.mA T.mI
  have GL : FnOk P w K mg base CX0 (k + 3) fL dL ["thing"] spLot := ok_lot T.FL T.FA T.bA T.gA T.FC T.bC T.gC T.FN T.bN T.gN T.g20 T.gLt T.gNz T.mS T.mT T.mL T.mA T.mU T.mR
  refine F.ok scHeld (fun vs H Q E h => ?_) (fun cdv A outer s H vs Q E hr h => ?_)
  · obtain ⟨p, ws, rfl, _⟩ := h
    rfl
  · obtain ⟨p, ws, rfl, hp, hl, hx, q⟩ := h
    refine ⟨_, pss_cons (ps_if (PW.pt (pw_or (pt_cmpR op_lt (pe_callB call_len_seq (by rfl) T.mL PySem.boot_len (pa_cons (pv 0) pa_nil)) pe_int (nomark _))
        (pw_or (pt_cmpR op_ne (pe_ix ix_list (pv 0) pe_int (fun _ _ => rfl)) pe_str (nomark _))
        (pw_or1 (pt_not (pt_val (pe_call GN hr (by rfl) T.gN T.FN.kp T.bN .nil pass0 (pa_cons (pe_ix ix_list (pv 0) pe_int (fun _ _ => rfl)) pa_nil)))))))) (pss_one (ps_ret pe_non)) pss_nil)
      (pss_cons (ps_set (i := 1) scHeld.nd rfl (.inl rfl) (pe_call GT hr (by rfl) T.gT T.FT.kp T.bT .nil pass0 (pa_cons (pe_ix ix_list (pv 0) pe_int (fun _ _ => rfl)) pa_nil)))
      (pss_cons (ps_set (i := 2) scHeld.nd rfl (.inl rfl) (pe_callTy call_tuple_of (by rfl) T.mU (by decide +kernel) (pa_cons (pe_slice sl_list (pv 0) (po_some pe_int) po_none) pa_nil)))
      (pss_cons (ps_if (PW.pt (pw_or (pt_cmpR op_isN (pv 1) pe_non (nomark _))
        (pw_or (pt_cmpR (op_notInTD hr.units) (pe_slice sl_list (pv 0) (po_some pe_int) (po_some pe_int)) (pe_tup (pa_cons (pe_lst pa_nil) (pa_cons (pe_lst (pa_cons pe_str (pa_cons pe_str pa_nil))) pa_nil))) (by rfl))
        (pw_or1 (pt_not (pt_val (pe_call GL hr (by rfl) T.gL T.FL.kp T.bL .nil pass0 (pa_cons (pv 2) pa_nil)))))))) (pss_one (ps_ret pe_non)) pss_nil)
      (pss_one (ps_ret (pe_tup (pa_cons (pe_ix ix_list (pv 0) pe_int (fun _ _ => rfl)) (pa_cons (pv 1) (pa_cons (pv 2) pa_nil))))))))), ?_⟩
    have hz : sizeLine = 16777216 := sizeLine_eq
    refine ⟨_, rfl, p, ws.map V.str, rfl, .inl (.inl (.inl hp)), _, _, rfl, rfl, _, rfl, ?_⟩
    rw [List.length_map]
    by_cases h3 : ws.length < 3
    · rw [decide_eq_true (show ((ws.length : Nat) : Int) < 3 by omega)]
      refine q H .non (Same.refl _) (.inr ⟨rfl, fun e ⟨⟨v, r, z, _⟩, _⟩ => ?_⟩)
      rw [z] at h3
      simp at h3
      omega
    rw [decide_eq_false (show ¬ ((ws.length : Nat) : Int) < 3 by omega)]
    obtain ⟨a, n, v, r, rfl⟩ : ∃ a n v r, ws = a :: n :: v :: r := by
      match ws, h3 with
      | a :: n :: v :: r, _ => exact ⟨a, n, v, r, rfl⟩
      | [], h => exact absurd (Nat.zero_lt_succ _) h
      | [_], h => exact absurd (show 1 < 3 by omega) h
      | [_, _], h => exact absurd (show 2 < 3 by omega) h
    refine ⟨_, rfl, p, _, 0, .str a, rfl, rfl, .inl (.inl hp), atI_nat (j := 0) rfl, rfl, _, rfl, ?_⟩
    by_cases h0 : a = "lock"
    case neg =>
      have e0 : (!decide (V.str a = V.str "lock")) = true := by rw [decide_eq_false (fun z => h0 (by injection z))]; rfl
      rw [e0]
      refine q H .non (Same.refl _) (.inr ⟨rfl, fun e ⟨⟨v', r', z, _⟩, _⟩ => ?_⟩)
      injection z with z1 _
      exact h0 z1
    subst h0
    have e0 : (!decide (V.str "lock" = V.str "lock")) = false := by rw [decide_eq_true rfl]; rfl
    rw [e0]
    refine ⟨_, rfl, p, _, 1, .str n, rfl, rfl, .inl (.inl hp), atI_nat (j := 1) rfl, n, rfl, by have := (hx n (by simp)).1; omega, fun H1 s1 => ⟨_, rfl, ?_⟩⟩
    by_cases h1 : isName n = true
    case neg =>
      have h1' : isN (.str n) = false := by simpa [isName] using h1
      rw [h1']
      refine q H1 .non s1 (.inr ⟨rfl, fun e ⟨⟨v', r', z, z2, _⟩, _⟩ => ?_⟩)
      injection z with _ z
      injection z with z1 _
      rw [z1] at h1
      exact h1 z2
    have h1' : isN (.str n) = true := h1
    rw [h1']
    have hp1 := s1 _ _ hp
    refine ⟨_, rfl, p, _, 2, .str v, rfl, rfl, .inl (.inl hp1), atI_nat (j := 2) rfl, v, rfl, by have := (hx v (by simp)).1; omega, fun H2 u s2 ov => ?_⟩
    have hp2 := s2 _ _ hp1
    refine ⟨_, rfl, 5, rfl, p, _, rfl, .inl (.inl hp2), fun m nm => ?_⟩
    rw [cut5]
    have s3 : Same H2 (upd H2 m (.lst (((("lock" : PySem.Str) :: n :: v :: r).map V.str).drop 5))) := new_same nm
    have hm3 : upd H2 m (.lst (((("lock" : PySem.Str) :: n :: v :: r).map V.str).drop 5)) m = some (.lst ((r.drop 2).map V.str)) := by
      rw [upd_same]
      show some (HO.lst ((r.map V.str).drop 2)) = _
      rw [List.map_drop]
    generalize upd H2 m (.lst (((("lock" : PySem.Str) :: n :: v :: r).map V.str).drop 5)) = H3 at s3 hm3 ⊢
    refine ⟨m, _, rfl, .inl ⟨.inl (.inl hm3), fun t nt => ?_⟩⟩
    have s4 : Same H3 (upd H3 t (.tup ((r.drop 2).map V.str))) := new_same nt
    have ht4 : upd H3 t (.tup ((r.drop 2).map V.str)) t = some (.tup ((r.drop 2).map V.str)) := upd_same
    generalize upd H3 t (.tup ((r.drop 2).map V.str)) = H4 at s4 ht4 ⊢
    have hp4 := s4 _ _ (s3 _ _ hp2)
    have ov4 := (ov.same s3).same s4
    have s04 : Same H H4 := ((s1.trans s2).trans s3).trans s4
    have hxr : ∀ x ∈ r, Tx x := fun x h => hx x (by simp [h])
    have hlr : r.length ≤ 900000 := by simp only [List.length_cons] at hl; omega
    cases hv : readV v with
    | none =>
      rw [hv] at ov4
      cases (show u = .non from ov4)
      refine ⟨_, rfl, rfl, _, rfl, ?_⟩
      refine q H4 .non s04 (.inr ⟨rfl, fun e ⟨⟨v', r', z, _, z3, _⟩, _⟩ => ?_⟩)
      injection z with _ z
      injection z with _ z
      injection z with z1 _
      rw [← z1, hv] at z3
      cases z3
    | some ns =>
      rw [hv] at ov4
      obtain ⟨p1, rfl, hp1'⟩ := ov4
      refine ⟨_, rfl, rfl, _, rfl, ?_⟩
      rw [decide_eq_false (by intro z; cases z)]
      refine ⟨_, rfl, 3, rfl, 5, rfl, p, _, rfl, .inl (.inl hp4), fun m2 nm2 => ?_⟩
      rw [cut35]
      have s5 : Same H4 (upd H4 m2 (.lst ((((("lock" : PySem.Str) :: n :: v :: r).map V.str).drop 3).take 2))) := new_same nm2
      have hm5 : upd H4 m2 (.lst ((((("lock" : PySem.Str) :: n :: v :: r).map V.str).drop 3).take 2)) m2 = some (.lst ((r.take 2).map V.str)) := by
        rw [upd_same]
        show some (HO.lst ((r.map V.str).take 2)) = _
        rw [List.map_take]
      generalize upd H4 m2 (.lst ((((("lock" : PySem.Str) :: n :: v :: r).map V.str).drop 3).take 2)) = H5 at s5 hm5 ⊢
      refine ⟨by show 0 ≤ sizeLine; exact Nat.zero_le _, fun l1 n1 => ⟨by show 2 ≤ sizeLine; decide, fun l2 n2 => ⟨by show 2 ≤ sizeLine; decide, fun l3 n3 => ?_⟩⟩⟩
      have g1 : upd H5 l1 (.lst []) l1 = some (.lst []) := upd_same
      have s6 : Same H5 (upd H5 l1 (.lst [])) := new_same n1
      generalize upd H5 l1 (.lst []) = H6 at g1 s6 n2 n3 ⊢
      have g2 : upd H6 l2 (.lst [.str ";", .str "with"]) l2 = some (.lst [.str ";", .str "with"]) := upd_same
      have s7 : Same H6 (upd H6 l2 (.lst [.str ";", .str "with"])) := new_same n2
      generalize upd H6 l2 (.lst [.str ";", .str "with"]) = H7 at g2 s7 n3 ⊢
      have g3 : upd H7 l3 (.tup [.ref l1, .ref l2]) l3 = some (.tup [.ref l1, .ref l2]) := upd_same
      have s8 : Same H7 (upd H7 l3 (.tup [.ref l1, .ref l2])) := new_same n3
      generalize upd H7 l3 (.tup [.ref l1, .ref l2]) = H8 at g3 s8 ⊢
      have hm8 := s8 _ _ (s7 _ _ (s6 _ _ hm5))
      have s48 : Same H4 H8 := ((s5.trans s6).trans s7).trans s8
      have lx : ∀ x ∈ r.take 2, Tx x := fun x h => hxr x (List.mem_of_mem_take h)
      refine ⟨.list ((r.take 2).map PyData.str), [.list (([] : List PySem.Str).map PyData.str), .list (([";", "with"] : List PySem.Str).map PyData.str)], .lst (.inl (.inl hm8)) (dp_strs _), .tup (.inl (.inl g3)) (.cons (.lst (.inl (.inl (s8 _ _ (s7 _ _ g1)))) .nil) (.cons (.lst (.inl (.inl (s8 _ _ g2))) (dp_strs [";", "with"])) .nil)), shaped_txs lx, by decide +kernel, ?_, _, rfl, ?_⟩
      · show PyData.depthAll ((r.take 2).map PyData.str) + 1 ≤ 60
        rw [(lay_txs _ lx).2]
        omega
      have ka : (([.list (([] : List PySem.Str).map PyData.str), .list (([";", "with"] : List PySem.Str).map PyData.str)] : List PyData).any fun z => PyData.eqv z (.list ((r.take 2).map PyData.str))) = true ↔ (r.take 2 = [] ∨ r.take 2 = [(";" : PySem.Str), "with"]) := by
        have e : (([.list (([] : List PySem.Str).map PyData.str), .list (([";", "with"] : List PySem.Str).map PyData.str)] : List PyData).any fun z => PyData.eqv z (.list ((r.take 2).map PyData.str))) = (PyData.eqvAll (([] : List PySem.Str).map PyData.str) ((r.take 2).map PyData.str) || (PyData.eqvAll (([";", "with"] : List PySem.Str).map PyData.str) ((r.take 2).map PyData.str) || false)) := rfl
        rw [e, Bool.or_eq_true, Bool.or_eq_true, eqv_strs, eqv_strs]
        exact ⟨fun h => h.elim (fun h => .inl h.symm) (fun h => h.elim (fun h => .inr h.symm) (fun h => absurd h (by decide))), fun h => h.elim (fun h => .inl h.symm) (fun h => .inr (.inl h.symm))⟩
      generalize (([.list (([] : List PySem.Str).map PyData.str), .list (([";", "with"] : List PySem.Str).map PyData.str)] : List PyData).any fun z => PyData.eqv z (.list ((r.take 2).map PyData.str))) = bb at ka ⊢
      have s08 : Same H H8 := s04.trans s48
      cases bb with
      | false =>
        refine q H8 .non s08 (.inr ⟨rfl, fun e ⟨_, z⟩ => ?_⟩)
        exact absurd (ka.mpr z) (by decide)
      | true =>
        have hw := ka.mp rfl
        have ht8 := s48 _ _ ht4
        refine ⟨_, rfl, t, r.drop 2, rfl, ht8, by rw [List.length_drop]; omega, fun x h => by have := (hxr x (List.mem_of_mem_drop h)).1; omega, fun H9 s9 => ⟨_, rfl, ?_⟩⟩
        have li := lot_iff (r.drop 2)
        generalize lotB (r.drop 2) = cc at li ⊢
        cases cc with
        | false =>
          refine q H9 .non (s08.trans s9) (.inr ⟨rfl, fun e ⟨⟨v', r', z, _, _, z4, z5, z6⟩, _⟩ => ?_⟩)
          injection z with _ z
          injection z with _ z
          injection z with _ z
          rw [← z] at z4
          rw [z4] at z5 z6
          exact absurd (li.mpr ⟨z5, z6⟩) (by decide)
        | true =>
          obtain ⟨w1, w2⟩ := li.mp rfl
          refine ⟨_, rfl, p, _, 1, .str n, rfl, rfl, .inl (.inl (s9 _ _ (s48 _ _ hp4))), atI_nat (j := 1) rfl, _, rfl, _, rfl, by show 3 ≤ sizeLine; decide, fun e ne => ?_⟩
          refine q _ _ ((s08.trans s9).trans (new_same ne)) (.inl ⟨(n, ns, r.drop 2), ⟨⟨v, r, rfl, h1, hv, rfl, w1, w2⟩, hw⟩, e, p1, t, rfl, upd_same, new_ne (s9 _ _ (s48 _ _ hp1')) ne, new_ne (s9 _ _ ht8) ne⟩)
end
end V9
/-! Locks that are read: entries put one by one; what is split. -/
namespace V9
open PySem PySem.Spec PyProof.Rows L2 TL
theorem any_kk (ks : List (PySem.Str × V)) (z : PySem.Str) : ((kk ks).any fun kv => decide (kv.1 = Sum.inr z)) = ks.any fun kv => decide (kv.1 = z) := by
  rw [valV_any, valV_any, val_kk]
theorem kk_put (ks : List (PySem.Str × V)) (z : PySem.Str) (v : V) : kk (putK ks z v) = putK (kk ks) (Sum.inr z) v := by
  unfold putK
  rw [any_kk]
  by_cases h : (ks.any fun kv => decide (kv.1 = z)) = true
  · rw [if_pos h, if_pos h]
    unfold kk
    rw [List.map_map, List.map_map]
    refine List.map_congr_left fun p _ => ?_
    show (Sum.inr (if p.1 = z then (p.1, v) else p).1, (if p.1 = z then (p.1, v) else p).2) = if (Sum.inr p.1 : L2.Key) = Sum.inr z then (Sum.inr p.1, v) else (Sum.inr p.1, p.2)
    by_cases e : p.1 = z
    · rw [if_pos e, if_pos (by rw [e])]
    · rw [if_neg e, if_neg (fun x => e (Sum.inr.inj x))]
  · rw [if_neg h, if_neg h, kk_snoc]
theorem put_mem {ks : List (PySem.Str × V)} {z : PySem.Str} {v : V} {p : PySem.Str × V} (h : p ∈ putK ks z v) : p = (z, v) ∨ p ∈ ks := by
  unfold putK at h
  by_cases c : (ks.any fun kv => decide (kv.1 = z)) = true
  · rw [if_pos c] at h
    obtain ⟨q, hq, e⟩ := List.mem_map.mp h
    by_cases e1 : q.1 = z
    · rw [if_pos e1] at e
      exact .inl (by rw [← e, e1])
    · rw [if_neg e1] at e
      exact .inr (e ▸ hq)
  · rw [if_neg c] at h
    rcases List.mem_append.mp h with e | e
    · exact .inr e
    · rw [List.mem_singleton] at e
      exact .inl e
theorem put_nd {ks : List (PySem.Str × V)} {z : PySem.Str} {v : V} (nd : (ks.map (·.1)).Nodup) : ((putK ks z v).map (·.1)).Nodup := by
  cases e : valV ks z with
  | none => exact nd_putK v nd e
  | some u =>
    have c : (ks.any fun kv => decide (kv.1 = z)) = true := by rw [valV_any, e]; rfl
    unfold putK
    rw [if_pos c, List.map_map]
    have : (ks.map fun p => (if p.1 = z then (p.1, v) else p).1) = ks.map (·.1) := List.map_congr_left fun p _ => by split <;> rfl
    show (ks.map fun p => (if p.1 = z then (p.1, v) else p).1).Nodup
    rw [this]
    exact nd

def putE (L : List E3) (e : E3) : List E3 := if (L.any fun z => decide (z.1 = e.1)) = true then L.map (fun z => if z.1 = e.1 then e else z) else L ++ [e]
theorem putE_keys_hit {L : List E3} {e : E3} (h : (L.any fun z => decide (z.1 = e.1)) = true) : (putE L e).map (·.1) = L.map (·.1) := by
  unfold putE
  rw [if_pos h, List.map_map]
  refine List.map_congr_left fun z _ => ?_
  show (if z.1 = e.1 then e else z).1 = z.1
  split
  · rename_i q; exact q.symm
  · rfl
theorem putE_new {L : List E3} {e : E3} (h : e.1 ∉ L.map (·.1)) : putE L e = L ++ [e] := by
  unfold putE
  rw [if_neg]
  intro z
  obtain ⟨p, hp, q⟩ := List.any_eq_true.mp z
  exact h (List.mem_map.mpr ⟨p, hp, of_decide_eq_true q⟩)
theorem putE_nd {L : List E3} {e : E3} (h : (L.map (·.1)).Nodup) : ((putE L e).map (·.1)).Nodup := by
  by_cases c : (L.any fun z => decide (z.1 = e.1)) = true
  · rw [putE_keys_hit c]; exact h
  · have n : e.1 ∉ L.map (·.1) := fun m => by
      obtain ⟨p, hp, q⟩ := List.mem_map.mp m
      exact c (List.any_eq_true.mpr ⟨p, hp, decide_eq_true q⟩)
    rw [putE_new n, List.map_append, List.nodup_append]
    refine ⟨h, by simp, fun a ha b hb z => ?_⟩
    simp at hb
    rw [z, hb] at ha
    exact n ha
theorem putE_mem {L : List E3} {e z : E3} (h : z ∈ putE L e) : z = e ∨ z ∈ L := by
  unfold putE at h
  split at h
  · obtain ⟨q, hq, e1⟩ := List.mem_map.mp h
    split at e1
    · exact .inl e1.symm
    · exact .inr (e1 ▸ hq)
  · rcases List.mem_append.mp h with x | x
    · exact .inr x
    · exact .inl (List.mem_singleton.mp x)
theorem putE_len (L : List E3) (e : E3) : (putE L e).length ≤ L.length + 1 := by
  unfold putE
  split
  · rw [List.length_map]; omega
  · rw [List.length_append, List.length_singleton]; omega
theorem ens_map {H : Hp} {v : V} {e : E3} (ev : EW H v e.2) : ∀ {ks : List (PySem.Str × V)} {L : List E3}, Ens H ks L → Ens H (ks.map fun kv => if kv.1 = e.1 then (kv.1, v) else kv) (L.map fun z => if z.1 = e.1 then e else z)
  | _, _, .nil => .nil
  | _, _, .cons (v := u) (e := z) (ks := ks) (L := L) a b => by
    rw [List.map_cons, List.map_cons]
    by_cases q : z.1 = e.1
    · rw [if_pos q, if_pos q, q]
      exact .cons ev (ens_map ev b)
    · rw [if_neg q, if_neg q]
      exact .cons a (ens_map ev b)
theorem ens_snoc {H : Hp} {v : V} {e : E3} (ev : EW H v e.2) : ∀ {ks : List (PySem.Str × V)} {L : List E3}, Ens H ks L → Ens H (ks ++ [(e.1, v)]) (L ++ [e])
  | _, _, .nil => .cons ev .nil
  | _, _, .cons a b => .cons a (ens_snoc ev b)
theorem ens_any {H : Hp} {x : PySem.Str} : ∀ {ks : List (PySem.Str × V)} {L : List E3}, Ens H ks L → (ks.any fun kv => decide (kv.1 = x)) = (L.any fun z => decide (z.1 = x))
  | _, _, .nil => rfl
  | _, _, .cons a b => by rw [List.any_cons, List.any_cons, ens_any b]
theorem Ens.put {H : Hp} {v : V} {e : E3} {ks : List (PySem.Str × V)} {L : List E3} (h : Ens H ks L) (ev : EW H v e.2) : Ens H (putK ks e.1 v) (putE L e) := by
  unfold putK putE
  rw [ens_any h]
  split
  · exact ens_map ev h
  · exact ens_snoc ev h
theorem DW.put {H : Hp} {d : Addr} {v : V} {e : E3} {ks : List (PySem.Str × V)} {L : List E3} (h : DW H d ks L) (ev : EW H v e.2) : DW (upd H d (.dK (putK (kk ks) (Sum.inr e.1) v))) d (putK ks e.1 v) (putE L e) := by
  refine ⟨by rw [upd_same, kk_put], putE_nd h.nd, (h.en.kt ?_).put (ev.kt ?_)⟩ <;> exact KT.dic h.at_
/-- pieces of a text -/
theorem spl_mem (S : List Nat) : ∀ (l : List Nat) (k : Nat) (acc : List Nat), ∀ p ∈ spl S k acc l, ∀ c ∈ p, c ∈ acc ∨ c ∈ l := by
  intro l
  induction l with
  | nil =>
    intro k acc p hp c hc
    rw [spl_nil, List.mem_singleton] at hp
    rw [hp] at hc
    exact .inl hc
  | cons a r ih =>
    intro k acc p hp c hc
    cases k with
    | zero =>
      by_cases h : pre S (a :: r) = true
      · rw [spl_hit h] at hp
        rcases List.mem_cons.mp hp with e | e
        · rw [e] at hc; exact .inl hc
        · rcases ih _ _ p e c hc with z | z
          · cases z
          · exact .inr (List.mem_cons_of_mem _ z)
      · rw [spl_miss (by simpa using h)] at hp
        rcases ih _ _ p hp c hc with z | z
        · rcases List.mem_append.mp z with y | y
          · exact .inl y
          · rw [List.mem_singleton] at y; rw [y]; exact .inr List.mem_cons_self
        · exact .inr (List.mem_cons_of_mem _ z)
    | succ k =>
      rcases ih k acc p hp c hc with z | z
      · exact .inl z
      · exact .inr (List.mem_cons_of_mem _ z)
theorem split_tx {x y : PySem.Str} {s : Nat} (ey : tl y = [s]) (hk : y.cps.all (· < 256) = true) (h : Tx x) : (∀ w ∈ Txt.split x y, Tx w ∧ w.length ≤ x.length) ∧ (Txt.split x y).length ≤ x.length + 1 := by
  have e : (Txt.split x y).map tl = spl [s] 0 [] (tl x) := by
    rw [split_spl x y (by rw [ey]; simp) (kind_ok hk), ey]
  refine ⟨fun w hw => ?_, ?_⟩
  · have h1 : tl w ∈ (Txt.split x y).map tl := List.mem_map_of_mem hw
    rw [e] at h1
    have l1 := spl_len _ _ _ _ _ h1
    rw [List.length_nil, Nat.zero_add, ← len_tl, ← len_tl] at l1
    refine ⟨⟨Nat.le_trans l1 h.1, fun c hc => ?_⟩, l1⟩
    rcases spl_mem _ _ _ _ _ h1 c hc with z | z
    · cases z
    · exact h.2 c z
  · have h2 := congrArg List.length e
    rw [List.length_map] at h2
    rw [h2, len_tl]
    exact spl_many _ _ _ _
end V9
/-! An error as a value; whether a value is a text. -/
namespace V9
open PySem PySem.Spec PyProof.Rows L2 TL
/-- what the written part says of an error's class -/
structure ErC (K : PySem.W.Frag) (D : Addr) : Prop where
  hg : PySem.W.findIn K (.ref D) "__getattribute__" = some (some (.builtin "BaseException.__getattribute__"))
  hk : PySem.W.findIn K (.ref D) "__getattr__" = some none
  hs : PySem.W.subIn K (.ref D) (.type "BaseException") = some true
  hd : PySem.W.hasDictIn K D = true
  ha : PySem.W.findIn K (.ref D) "__class__" = some (some (.builtin "object.__class__"))
  hn : PySem.W.specialIn K (.builtin "object.__class__") "__get__" = some (some (.builtin "getset_descriptor.__get__"))
  ht : PySem.W.takesIn K (.builtin "object.__class__") = some true
  hm : PySem.W.mroIn K D (.type "object") = some true
/-- whether a value is a text -/
def IsS (K : PySem.W.Frag) (H : Hp) (v : V) (b : Bool) : Prop := (∃ t, TyX K H v t ∧ PySem.W.kitOne K t (.type "str") = some b) ∨
  (b = false ∧ ∃ a C, v = .ref a ∧ H a = some (ExO (.ref C) a) ∧ ErC K C ∧ PySem.W.kitOne K (.ref C) (.type "str") = some false)
theorem IsS.str {K : PySem.W.Frag} {H : Hp} (x : PySem.Str) : IsS K H (.str x) true := .inl ⟨_, .base (.str x), (kits K "str" (by decide)).2.2.1⟩
section
variable {X : Cx} {pins : List (Addr × Obj)} {σ : L2.St} {H : Hp} {s : Shared} {a C : Addr}
theorem exo_inst (I : Inv X pins σ H s) (h : H a = some (ExO (.ref C) a)) : ∃ ox od, PySem.W.InstAt s.heap a ox C od := by
  have z : ObjOk X.prog X.w H s.heap a (ExO (.ref C) a) := I.hok a _ h
  obtain ⟨⟨oe, vs, e, hz, hd, _⟩, _, _⟩ := z
  obtain ⟨oc, od, oda, osl⟩ := oe
  obtain ⟨y1, y2⟩ := hz
  dsimp only at y1 y2 hd
  subst y1 y2 hd
  exact ⟨_, none, ⟨e, rfl, rfl, trivial⟩⟩
end
section
variable {X : Cx}
/-- isinstance(x, str) -/
theorem call_isS : CallR X (.builtin "isinstance") (fun xs H Q => ∃ (x : V) (b : Bool), xs = [x, .ty "str"] ∧ IsS X.K H x b ∧ Q (.bl b) H) := by
  intro pins s σ H xs us Q I r h
  obtain ⟨x, b, rfl, hx, q⟩ := h
  rcases hx with ⟨t, ty, e⟩ | ⟨rfl, a, C, rfl, he, T, hk⟩
  · exact call_isi pins s σ H _ us Q I r ⟨x, .ty "str", t, .type "str", b, rfl, .ty "str", ty, e, q⟩
  · obtain ⟨u1, u2, rfl, r1, r2⟩ := vals2 r
    cases (show u1 = Value.ref a from r1)
    have e2 := (ClsV.ty "str").eq r2
    subst e2
    obtain ⟨ox, od, J⟩ := exo_inst I he
    have hcl : (PySem.W.clsIn X.K C).isSome = true := by
      obtain ⟨cd, e, _⟩ := PySem.W.any_some T.hd
      rw [e]; rfl
    exact PySem.W.kia_one (PySem.W.kitx_exc hcl T.hg T.hk T.hs T.ha T.hn T.ht T.hm) I.kIn J hk (fun z => nomatch z) fun tk => ⟨.bl false, H, I.tok tk, rfl, q⟩
/-- C(), C without an own __init__: the new error -/
theorem pe_exc0 {x : PySem.Str} {C : Addr} {p pos : Pos} {bmB : List Value} {B newId initId : String} (F : ExcBaseFacts B newId initId bmB) (q : PySem.W.excIn X.K C bmB newId = true) (gC : X.mg x = some (.ref C))
    (kC : PySem.W.keepIn X.K (.ref C) = true) (hg : Gl X x) (hdb : (x == ("__debug__" : PySem.Str)) = false := by decide) :
    PE X (.Call (.Name x p) [] [] pos) (fun _ H Q => ∀ a, H a = none → Q (.ref a) (upd H a (ExO (.ref C) a))) := by
  constructor
  intro pins s σ H Q I h
  refine wpAny_Call_Name_kw (ld_glob I hg gC ?_ hdb)
  refine PySem.W.callWith_K0 I.kIn kC ?_
  show wpAny _ _ (call (.ref C) []) _ _ _
  obtain ⟨bm, N, nm, qn, bs, hdct, sn, sub, ab, col, dd, k0, k1, k2, k3, k5, mN, hC, hN, hni, T⟩ := exc_obj I.kIn q
  refine wpAny_call_exc_subT F T hC hN hni (fun h' a hm => ?_) (by show 0 ≤ sizeLine; exact Nat.zero_le _)
  have hn : H a = none := I.hok.gone hm.new
  obtain ⟨t, ht, _, _⟩ := hm.there
  exact ⟨.ref a, upd H a (ExO (.ref C) a), I.laidN hm.keeps hm.new hn (exO_ok ht ⟨rfl, rfl⟩ rfl rfl rfl (show 4 < 6 by decide)), rfl, h a hn⟩
end
/-- a promise that nothing is raised -/
theorem fn_pure {P : Program} {w : World} {K : PySem.W.Frag} {mg : PySem.Str → Option Value} {base : Heap} {k : Nat} {f : Addr} {fd : FuncData} {ps : List PySem.Str} {sp sp' : Sp} (F : FnOk P w K mg base (L2.CX P w) k f fd ps sp)
    (h : ∀ vs H Q E, sp' vs H Q E → sp vs H Q E0) : FnOk P w K mg base CX0 k f fd ps sp' :=
  ⟨fun vs H Q E q => F.len vs H Q _ (h _ _ _ _ q), fun A outer s H args us vs Q E hr he hb hv hs => codeAny_mono (F.run A outer s H args us vs Q E0 hr he hb hv (h _ _ _ _ hs)) fun r s' hq => by
    cases r with
    | error e =>
      obtain ⟨a, B, H', cls, d, _, _, _, _, _, _, _, hE⟩ := hq
      exact hE.elim
    | ok fl => cases fl <;> exact hq⟩
end V9
/-! read_lock, which may raise. -/
namespace V9
open PySem PySem.Spec PyProof.Rows L2 TL
theorem nd_inj : ∀ {L : List E3}, (L.map (·.1)).Nodup → ∀ x ∈ L, ∀ y ∈ L, x.1 = y.1 → x = y
  | [], _, x, hx, _, _, _ => by cases hx
  | z :: L, h, x, hx, y, hy, e => by
    rw [List.map_cons] at h
    obtain ⟨h1, h2⟩ := List.nodup_cons.mp h
    rcases List.mem_cons.mp hx with a | a <;> rcases List.mem_cons.mp hy with b | b
    · rw [a, b]
    · rw [a] at e; exact absurd (List.mem_map.mpr ⟨y, b, e.symm⟩) h1
    · rw [b] at e; exact absurd (List.mem_map.mpr ⟨x, a, e⟩) h1
    · exact nd_inj h2 x a y b e
theorem perm_asc {S L : List E3} (s : TX.Asc (S.map (·.1))) (t : TX.Asc (L.map (·.1))) (p : S.Perm L) : S = L := by
  refine List.Perm.eq_of_pairwise (le := fun p q : E3 => p.1.cps.toList ≤ q.1.cps.toList) (fun x y hx hy h1 h2 => ?_) ?_ ?_ p
  · exact nd_inj t.2 x (p.mem_iff.mp hx) y hy (TX.str_ext (List.le_antisymm h1 h2))
  · exact (List.pairwise_map (R := fun a b : PySem.Str => a.cps.toList ≤ b.cps.toList)).mp (TX.sorted_pair s.1)
  · exact (List.pairwise_map (R := fun a b : PySem.Str => a.cps.toList ≤ b.cps.toList)).mp (TX.sorted_pair t.1)
/-- a text that is read -/
structure Tt (x : PySem.Str) : Prop where
  t : Tx x
  l : (linesT x).length ≤ 40
  w : ∀ l ∈ linesT x, (Txt.split l Bk).length ≤ 60
theorem Pln.few {ws : List PySem.Str} {e : E3} (h : Lln ws e) (k : ws.length ≤ 60) : e.2.2.length ≤ 60 := by
  obtain ⟨v, r, h1, _, _, h2, _⟩ := h
  rw [h1] at k
  rw [h2, List.length_drop]
  simp only [List.length_cons] at k
  omega
def OL (H : Hp) (v : V) (x : PySem.Str) : Prop := (lockT x = none ∧ v = .non) ∨ ∃ L d ks, lockT x = some L ∧ v = .ref d ∧ DW H d ks L
/-- it is no text -/
def NT (K : PySem.W.Frag) (H : Hp) (v : V) : Prop := IsS K H v false
/-- what was read, and what it says of the text -/
structure Rd3 (x : PySem.Str) (L Es : List E3) : Prop where
  r : Rds Lln (linesT x) Es
  m : ∀ e ∈ L, e ∈ Es
  n : (L.map (·.1)).Nodup
  u : (Es.map (·.1)).Nodup → L = Es
theorem Rd3.some {x : PySem.Str} {L Es S : List E3} (h : Rd3 x L Es) (p : S.Perm L) (s : sortedS (S.map (·.1)) = true) (e : showE S = x) : L = S ∧ lockT x = some S := by
  have V : VL S := ⟨fun z hz => by
    obtain ⟨ws, a⟩ := h.r.all z (h.m z (p.mem_iff.mp hz))
    exact Lln.ve a, s, ((p.map (·.1)).nodup_iff).mpr h.n⟩
  have e2 : Es = S := h.r.shown V e
  exact ⟨(h.u (by rw [e2]; exact V.a.2)).trans e2, lock_some V e⟩
theorem Rd3.none {x : PySem.Str} {L Es S : List E3} (h : Rd3 x L Es) (p : S.Perm L) (s : sortedS (S.map (·.1)) = true) (e : showE S ≠ x) : lockT x = none := by
  refine lock_none fun L' V e' => e ?_
  have e2 : Es = L' := h.r.shown V e'
  have e3 := h.u (by rw [e2]; exact V.a.2)
  have A : TX.Asc (S.map (·.1)) := ⟨s, ((p.map (·.1)).nodup_iff).mpr h.n⟩
  rw [e3, e2] at p
  rw [perm_asc A V.a p, e']
abbrev sInitW : Stmt := inClass (topS 2) 0
abbrev sRdL : Stmt := topS 23
theorem scInitW : FnScope ["self", "place"] ["self", "place"] (defScope sInitW) := ⟨rfl, rfl, rfl, by decide +kernel, rfl, by decide +kernel, by decide +kernel⟩
theorem scRdL : FnScope ["text", "lock", "lines", "line", "told", "name", "version", "features"] ["text"] (defScope sRdL) := ⟨rfl, rfl, rfl, by decide +kernel, rfl, by decide +kernel, by decide +kernel⟩
/-- what the written part says of Wrong, at CW -/
structure Ex (K : PySem.W.Frag) (mg : PySem.Str → Option Value) (CW fI : Addr) (dI : FuncData) : Prop where
  gW : mg "Wrong" = some (.ref CW)
  ox : OexC K CW
  iC : PySem.W.findIn K (.ref CW) "__init__" = some (some (.ref fI))
  tI : PySem.W.typeIn K (.ref fI) = some (.type "function")
  no : PySem.W.findIn K (.ref CW) "place" = some none
  fn : Fun K "__init__" "Wrong.__init__" sInitW fI dI
  bI : Binds K dI ["self", "place"] []
section
variable {P : Program} {w : World} {K : PySem.W.Frag} {mg : PySem.Str → Option Value} {base : Heap}
def spInitW (C : Addr) : Sp := fun vs H Q _ => ∃ (a : Addr) (v : V), vs = [.ref a, v] ∧ H a = some (exo a C none) ∧ ∀ d, H d = none → d ≠ a → Q .non (upd (upd H d (exd d [("place", v)])) a (exo a C (some d)))
theorem init_W {CW fI : Addr} {dI : FuncData} {k : Nat} (T : Ex K mg CW fI dI) : FnOk P w K mg base CX0 (k + 1) fI dI ["self", "place"] (spInitW CW) := by
  refine T.fn.ok scInitW (fun vs H Q E h => ?_) (fun cdv A outer s H vs Q E hr h => ?_)
  · obtain ⟨a, v, rfl, _⟩ := h
    rfl
  · obtain ⟨a, v, rfl, ha, q⟩ := h
    refine ⟨_, pss_one (ps_ost (pv 0) (pv 1)), ?_⟩
    exact ⟨v, rfl, .ref a, rfl, a, CW, rfl, T.ox, T.no, .inl ⟨ha, fun d nd ne => q d nd ne⟩⟩
end
section
variable {X : Cx}
/-- Wrong(i) -/
theorem pmk_wrong {CW fI : Addr} {dI : FuncData} {k : Nat} {p pos p2 : Pos} {i : Int} {j : Nat} (T : Ex X.K X.mg CW fI dI) (hr : Room (k + 2) X.A) (hg : Gl X "Wrong") :
    PMk X (.Call (.Name "Wrong" p) [.Constant (.int i) j p2] [] pos) (fun σ H Q => ∀ H' d, Same H H' → H d = none → H' d = some (.xd [("place", .int i)]) → Q (.ref CW) (some d) H') := by
  intro pins s σ H Q I h
  refine pmk_oex (CX := CX0) (dvs := []) (ds := []) T.ox T.iC T.tI (init_W (k := k) T) hr T.bI .nil pass0 hg T.gW (pa_cons pe_int pa_nil) (by decide) (by rfl) (by rfl) pins s σ H Q I ?_
  refine ⟨by show 1 ≤ 1000; decide, fun a na => ⟨a, .int i, rfl, upd_same, fun d nd ne => ⟨rfl, d, [("place", .int i)], upd_same, ?_, ?_, ?_⟩⟩⟩
  · rw [upd_ne ne]
    exact upd_same
  · rw [upd_ne ne] at nd
    exact nd
  · rw [upd_ne ne] at nd
    refine h _ d (fun b o hb => ?_) nd upd_same
    have h1 : b ≠ d := ne_of_none hb nd
    have h2 : b ≠ a := ne_of_none hb na
    rw [upd_ne h1, del_ne h2, upd_ne h2, upd_ne h1, upd_ne h2]
    exact hb
end
/-- the program's shows -/
structure Ps (K : PySem.W.Frag) (mg : PySem.Str → Option Value) (fK fH fE fF fV : Addr) (dK dH dE dF dV : FuncData) : Prop where
  FK : Fun K "show_lock" "show_lock" sLock fK dK
  bK : Binds K dK ["lock"] []
  gK : mg "show_lock" = some (.ref fK)
  FH : Fun K "held_told" "held_told" sHeld fH dH
  bH : Binds K dH ["words"] []
  gH : mg "held_told" = some (.ref fH)
  FE : Fun K "lock_line" "lock_line" sLine fE dE
  bE : Binds K dE ["name", "held"] []
  gE : mg "lock_line" = some (.ref fE)
  FF : Fun K "show_features" "show_features" sFts fF dF
  bF : Binds K dF ["word", "features"] []
  gF : mg "show_features" = some (.ref fF)
  FV : Fun K "show_version" "show_version" sShow fV dV
  bV : Binds K dV ["version"] []
  gV : mg "show_version" = some (.ref fV)
  mSo : mg "sorted" = none
section
variable {P : Program} {w : World} {K : PySem.W.Frag} {mg : PySem.Str → Option Value} {base : Heap}
variable {fN fT fS fL fA fC fK fH fE fF fV : Addr} {dN dT dS dL dA dC dK dH dE dF dV : FuncData} {t1 t2 t3 t4 t5 : Tok}
def spRdL (CW : Addr) : Sp := fun vs H Q E => (∃ v, vs = [v] ∧ NT K H v ∧ ∀ H' d, Same H H' → H d = none → H' d = some (.xd [("place", .int 0)]) → E (.ref CW) (some d) H') ∨
  (∃ x : PySem.Str, vs = [.str x] ∧ Tt x ∧ ∀ H' v, Same H H' → OL H' v x → (∀ a, v = .ref a → H a = none) → Q v H')
theorem ok_rdl {f : Addr} {fd : FuncData} {k : Nat} {CW fI : Addr} {dI : FuncData} (F : Fun K "read_lock" "read_lock" sRdL f fd) (T : Pn K mg fN fT fS fL fA fC dN dT dS dL dA dC t1 t2 t3 t4 t5) (S : Ps K mg fK fH fE fF fV dK dH dE dF dV) (X : Ex K mg CW fI dI) :
    FnOk P w K mg base (L2.CX P w) (k + 5) f fd ["text"] (spRdL (K := K) CW) := by
  have GH : FnOk P w K mg base CX0 (k + 4) fH dH ["words"] spHeld := ok_held S.FH T
  have GK : FnOk P w K mg base CX0 (k + 4) fK dK ["lock"] spShowL := ok_lockS S.FK S.FE S.bE S.gE S.FF S.bF S.gF S.FV S.bV S.gV T.mT S.mSo
  refine F.okX scRdL (fun vs H Q E h => ?_) (fun cdv A outer s H vs Q E hr h => ?_)
  · rcases h with ⟨v, rfl, _⟩ | ⟨x, rfl, _⟩ <;> rfl
  · have hu1 := Nat.lt_of_le_of_lt (Nat.add_le_add_left (show 1 ≤ 64 by decide) _) hr.units
    refine ⟨_, pss_cons (ps_if (pt_not (pt_val (pe_callB call_isS (by rfl) T.mS (by decide +kernel) (pa_cons (pv 0) (pa_cons (pe_bltn (v := .ty "str") (u := .type "str") (by rfl) T.mT (by decide +kernel) rfl) pa_nil)))))
        (pss_one (ps_raise rfl (takes_of rfl rfl rfl rfl) (pmk_wrong X hr (by rfl)))) pss_nil)
      (pss_cons (ps_set (i := 1) scRdL.nd rfl (.inl rfl) pe_dnewK)
      (pss_cons (ps_set (i := 2) scRdL.nd rfl (.inl rfl) (pe_mid (pe_ifExp (pt_truth (pv 0) (fun _ => rfl)) (pe_split (pv 0) pe_str) (pe_lst pa_nil))))
      (pss_cons (ps_for (passes_of rfl) rfl (pi_list (pv 2)) (pg_name (i := 3) scRdL.nd rfl (Or.inl rfl))
        (pss_cons (ps_set (i := 4) scRdL.nd rfl (.inl rfl) (pe_call GH hr (by rfl) S.gH S.FH.kp S.bH .nil pass0 (pa_cons (pe_split (pv 3) pe_str) pa_nil)))
        (pss_cons (ps_if (pt_cmpR op_isN (pv 4) pe_non (nomark _)) (pss_one (ps_ret pe_non)) pss_nil)
        (pss_cons (ps_asg (pv 4) (pg_tup rfl (pgs_cons (pg_name (i := 5) scRdL.nd rfl (Or.inl rfl)) (pgs_cons (pg_name (i := 6) scRdL.nd rfl (Or.inl rfl)) (pgs_cons (pg_name (i := 7) scRdL.nd rfl (Or.inl rfl)) pgs_nil)))))
        (pss_one (ps_dput hu1 (pv 1) (pv 5) (pe_tup (pa_cons (pv 6) (pa_cons (pv 7) pa_nil))) (by rfl)))))))
      (pss_one (ps_ret (pe_ifExp (pt_cmpR op_eq (pe_call GK hr (by rfl) S.gK S.FK.kp S.bK .nil pass0 (pa_cons (pv 1) pa_nil)) (pv 0) (nomark _)) (pv 1) pe_non)))))), ?_⟩
    rcases h with ⟨v, rfl, nt, q⟩ | ⟨x, rfl, tt, q⟩
    · exact ⟨v, rfl, v, false, rfl, nt, _, rfl, fun H' d s' nd hd => q H' d s' nd hd⟩
    · have t3 := (kits K "str" (by decide)).2.2.1
      have hz : sizeLine = 16777216 := sizeLine_eq
      have hxl := tt.t.1
      refine ⟨.str x, rfl, .str x, true, rfl, .str x, true, rfl, ?_⟩
      refine fun d nd => ⟨fun u H' => ∃ l, u = .ref l ∧ H' l = some (.lst ((linesT x).map V.str)) ∧ Same (upd H d (.dK [])) H', ?_, ?_⟩
      · refine ⟨_, rfl, _, ⟨by omega, rfl⟩, ?_⟩
        by_cases h0 : x = ""
        · have e0 : (((x.length : Nat) : Int) != 0) = false := by rw [h0]; rfl
          rw [e0]
          refine ⟨Nat.zero_le _, fun l nl => ⟨l, rfl, by rw [upd_same]; unfold linesT; rw [if_pos h0]; rfl, new_same nl⟩⟩
        · have e0 : (((x.length : Nat) : Int) != 0) = true := by
            have : x.length ≠ 0 := fun z => h0 (str_nil.mpr ((len0_tl x).mp z))
            rw [bne_iff_ne]
            omega
          rw [e0]
          refine ⟨_, rfl, ⟨x, rfl⟩, x, Nl, rfl, rfl, by decide +kernel, by omega, fun l nl => ⟨l, rfl, by rw [upd_same]; unfold linesT; rw [if_neg h0], new_same nl⟩⟩
      · rintro u H1 ⟨l, rfl, hl, s1⟩
        have nd' := nd
        have hd1 : H1 d = some (.dK []) := s1 _ _ upd_same
        have dl : d ≠ l := fun e => by rw [e, hl] at hd1; cases hd1
        have sH : Same H H1 := (new_same nd).trans s1
        refine ⟨_, rfl, l, rfl, ⟨_, .inl (.inl hl)⟩, ?_⟩
        refine for_list (K := K) (a := l) (xs := (linesT x).map V.str) (fun i σ' H' => (∃ y3 y4 y5 y6 y7, σ' = [some (.str x), some (.ref d), some (.ref l), y3, y4, y5, y6, y7]) ∧ H' l = some (.lst ((linesT x).map V.str)) ∧ Same H H' ∧
            ∃ ks L Es, DW H' d ks L ∧ Rds Pln ((linesT x).take i) Es ∧ (∀ e ∈ L, e ∈ Es) ∧ L.length ≤ i ∧ ((Es.map (·.1)).Nodup → L = Es) ∧ ∀ e ∈ Es, e.2.2.length ≤ 60)
          ⟨⟨_, _, _, _, _, rfl⟩, hl, sH, [], [], [], ⟨hd1, List.nodup_nil, .nil⟩, .nil, (fun e he => by cases he), Nat.zero_le _, (fun _ => rfl), (fun e he => by cases he)⟩ (fun i σ' H' _ hP => .inl (.inl hP.2.1)) (fun i v σ' H2 hx hP => ?_) (fun σ' H2 hP => ?_)
        · obtain ⟨⟨y3, y4, y5, y6, y7, rfl⟩, hl2, s2, ks, L, Es, dw, rd, mm, ll, un, fw⟩ := hP
          rw [List.getElem?_map] at hx
          obtain ⟨z, hz1, rfl⟩ := Option.map_eq_some_iff.mp hx
          have zm : z ∈ linesT x := List.mem_of_getElem? hz1
          have ztx : Tx z := by
            unfold linesT at zm
            split at zm
            · cases zm
            · exact ((split_tx tl_nl (by decide +kernel) tt.t).1 z zm).1
          have wt := split_tx (x := z) tl_bk (by decide +kernel) ztx
          have wl := tt.w z zm
          have zl := ztx.1
          refine ⟨_, rfl, ⟨z, rfl⟩, z, Bk, rfl, rfl, by decide +kernel, by omega, fun m nm => ?_⟩
          refine ⟨m, Txt.split z Bk, rfl, upd_same, by omega, fun w hw => (wt.1 w hw).1, fun H3 u s3 oe => ?_⟩
          have s23 : Same H2 H3 := (new_same nm).trans s3
          refine ⟨_, rfl, rfl, _, rfl, ?_⟩
          rcases oe with ⟨e, pe, a, p, q1, rfl, ha, hp, hq⟩ | ⟨rfl, no⟩
          · rw [decide_eq_false (fun z => nomatch z)]
            refine ⟨_, rfl, a, _, rfl, .inl (.inl ha), rfl, _, _, rfl, _, _, rfl, _, _, rfl, rfl, ?_⟩
            refine ⟨_, rfl, _, rfl, by show 2 ≤ sizeLine; decide, fun r nr => ?_⟩
            have s4 : Same H3 (upd H3 r (.tup [.ref p, .ref q1])) := new_same nr
            have hr4 : upd H3 r (.tup [.ref p, .ref q1]) r = some (.tup [.ref p, .ref q1]) := upd_same
            generalize upd H3 r (.tup [.ref p, .ref q1]) = H4 at s4 hr4 ⊢
            have s24 := s23.trans s4
            have dw4 := dw.same s24
            have ev : EW H4 (.ref r) e.2 := ⟨r, p, q1, rfl, hr4, s4 _ _ hp, s4 _ _ hq⟩
            have lk : (kk ks).length ≤ 40 := by
              have h1 := congrArg List.length dw.en.keys
              rw [List.length_map, List.length_map] at h1
              have h2 : i < (linesT x).length := by
                rcases Nat.lt_or_ge i (linesT x).length with h | h
                · exact h
                · rw [List.getElem?_eq_none h] at hz1; cases hz1
              have := tt.l
              rw [kk_len]
              omega
            refine ⟨_, rfl, _, rfl, d, _, rfl, DPut.k (k := Sum.inr e.1) dw4.at_ (by omega), ⟨_, _, _, _, _, rfl⟩, ?_, fun y o h => ?_, putK ks e.1 (.ref r), putE L e, Es ++ [e], dw4.put ev, ?_, ?_, ?_, ?_, ?_⟩
            · rw [upd_ne dl.symm]
              exact s24 _ _ hl2
            · rw [upd_ne (fun z => by rw [z, nd'] at h; cases h)]
              exact s24 _ _ (s2 y o h)
            · rw [List.take_add_one, hz1]
              exact rd.snoc pe
            · intro y hy
              rcases putE_mem hy with h | h
              · rw [h]; exact List.mem_append_right _ List.mem_cons_self
              · exact List.mem_append_left _ (mm y h)
            · exact Nat.le_trans (putE_len L e) (Nat.succ_le_succ ll)
            · intro nn
              rw [List.map_append, List.nodup_append] at nn
              have e1 := un nn.1
              rw [putE_new (fun m => nn.2.2 e.1 (by rw [← e1]; exact m) e.1 (by simp) rfl), e1]
            · intro y hy
              rcases List.mem_append.mp hy with h | h
              · exact fw y h
              · rw [List.mem_singleton.mp h]
                exact Pln.few pe.1 wl
          · rw [decide_eq_true rfl]
            exact q H3 .non (s2.trans s23) (.inl ⟨lock_none fun L' V => no_line zm no V, rfl⟩) (fun a e => nomatch e)
        · obtain ⟨⟨y3, y4, y5, y6, y7, rfl⟩, hl2, s2, ks, L, Es, dw, rd, mm, ll, un, fw⟩ := hP
          rw [List.length_map] at rd ll
          rw [List.take_length] at rd
          have R : Rd3 x L Es := ⟨rd.imp fun _ _ a => a.1, mm, dw.nd, un⟩
          have vb : ∀ e ∈ L, VB e := fun e he => by
            obtain ⟨ws, a⟩ := rd.all e (mm e he)
            exact (Lln.ve a.1).vb (fw e (mm e he))
          refine ⟨_, rfl, d, ks, L, rfl, dw, vb, Nat.le_trans ll tt.l, fun H3 S s3 pS sS => ?_⟩
          refine ⟨_, rfl, rfl, _, rfl, ite2 (fun e => ?_) (fun e => ?_)⟩
          · have e' : showE S = x := by
              have := of_decide_eq_true e
              injection this
            obtain ⟨eL, eT⟩ := R.some pS sS e'
            rw [eL] at dw
            exact ⟨_, rfl, q H3 _ (s2.trans s3) (.inr ⟨S, d, ks, eT, rfl, dw.same s3⟩) (fun a e => by cases e; exact nd)⟩
          · have e' : showE S ≠ x := fun z => e (decide_eq_true (by rw [z]))
            exact q H3 .non (s2.trans s3) (.inl ⟨R.none pS sS e', rfl⟩) (fun a e => nomatch e)
end
end V9
/-! What is a name, to the law. -/
namespace V9
open PySem PySem.Spec PyProof.Rows L2 TL
abbrev sLName : Stmt := topS 36
theorem scLName : FnScope ["thing", "sign"] ["thing"] (defScope sLName) := ⟨rfl, rfl, rfl, by decide +kernel, rfl, by decide +kernel, by decide +kernel⟩
section
variable {P : Program} {w : World} {K : PySem.W.Frag} {mg : PySem.Str → Option Value} {base : Heap}
theorem ok_lname {f : Addr} {fd : FuncData} {k : Nat} (F : Fun K "_law_is_a_name" "_law_is_a_name" sLName f fd)
    (mS : mg "isinstance" = none) (mT : mg "str" = none) (mL : mg "len" = none) : FnOk P w K mg base CX0 (k + 1) f fd ["thing"] spIsN := by
  refine F.ok scLName (fun vs H Q E h => ?_) (fun cdv A outer s H vs Q E hr h => ?_)
  · obtain ⟨x, rfl, _⟩ := h
    rfl
  · obtain ⟨x, rfl, hx, q⟩ := h
    refine ⟨_, pss_cons (ps_if (PW.pt (pw_or (pt_not (pt_val (pe_callB call_isi (by rfl) mS (by decide +kernel) (pa_cons (pv 0) (pa_cons (pe_bltn (v := .ty "str") (u := .type "str") (by rfl) mT (by decide +kernel) rfl) pa_nil)))))
          (pw_or1 (pt_not (pt_chain op_lt op_lt pe_int (pe_callB call_len_str (by rfl) mL PySem.boot_len (pa_cons (pv 0) pa_nil)) pe_int))))) (pss_one (ps_ret pe_bl)) pss_nil)
      (pss_cons (ps_if (pt_cmpR op_notIn_sign (pe_ix ix_str (pv 0) pe_int (fun _ _ => rfl)) pe_str (by rfl)) (pss_one (ps_ret pe_bl)) pss_nil)
      (pss_one (ps_ret (pe_cmpR (op_eqL0 hr.units0) (pe_lc (own := [("sign", 1)]) (g := gName 1) rfl scLName.nd (pi_str (pv 0)) (blkOk_by (N := ["thing", "sign"]) (sc := defScope sLName) (by decide +kernel))
          (fun _ _ _ _ _ => pg_name (i := 1) scLName.nd rfl (Or.inl rfl)) (fun _ _ _ _ _ => pts_one (pt_cmpR op_notIn_sign (pv 1) pe_str (by rfl)))
          (fun _ _ _ _ _ => pv 1)) (pe_lst pa_nil) (nomark _))))), ?_⟩
    obtain ⟨_, _, t3, _⟩ := kits K "str" (by decide)
    refine ⟨_, rfl, .str x, .ty "str", _, _, _, rfl, .ty "str", .base (.str x), t3, _, rfl, ite2 (fun e => ?_) (fun e => ?_)⟩
    · exact absurd e (by decide)
    · have hk : True := trivial
      cases hk with
      | intro =>
        have hz : x.length ≤ sizeLine := by rw [sizeLine_eq]; omega
        refine ⟨.str x, rfl, x, rfl, hz, 0, (x.length : Nat), rfl, rfl, _, rfl, ite2 (fun e1 => ?_) (fun e1 => ?_)⟩
        · have h1 : 1 ≤ x.length := by have := of_decide_eq_true e1; omega
          refine ⟨(x.length : Nat), 21, rfl, rfl, _, rfl, ?_⟩
          by_cases h2 : x.length ≤ 20
          · rw [decide_eq_true (show ((x.length : Nat) : Int) < 21 by omega)]
            obtain ⟨c, hc0, hhd⟩ := head_at h1
            have qq : ∀ H', Same H H' → Q (.bl (decide (c ∈ Lt.cps.toList) && allIn Nz x.cps.toList)) H' := fun H' s => by
              have z := q H' s
              have e0 : isN (.str x) = (decide (c ∈ Lt.cps.toList) && allIn Nz x.cps.toList) := by
                show (decide (1 ≤ x.length) && decide (x.length ≤ 20) && (headIn x && allIn Nz x.cps.toList)) = _
                rw [decide_eq_true h1, decide_eq_true h2, hhd]
                rfl
              rw [e0] at z
              exact z
            refine ⟨.str x, rfl, x, 0, c, rfl, rfl, hz, hc0, c, Lt, rfl, rfl, _, rfl, ?_⟩
            by_cases e3 : decide (c ∈ Lt.cps.toList) = true
            · rw [e3] at qq ⊢
              refine ⟨.str x, rfl, x, rfl, fun Dl nD => ?_⟩
              refine lc_it (walk_str (z := x)) (fun j Hc => Same H Hc ∧ ∃ acc, Hc Dl = some (.lst acc) ∧ acc.length ≤ j ∧ acc.isEmpty = allIn Nz (x.cps.toList.take j)) ⟨new_same nD, [], upd_same, Nat.le_refl _, by rw [List.take_zero]; rfl⟩ (fun j Hc _ hP => trivial) ?_ (fun Hc hP => ?_)
              · rintro j v Hc H' hj ⟨c2, acc, c1, c3, c4⟩ ⟨rfl, c, hx, rfl⟩
                have hx' : x.cps.toList[j]? = some c := by rw [Array.getElem?_toList]; exact hx
                have e7 : allIn Nz (x.cps.toList.take (j + 1)) = (acc.isEmpty && decide (c ∈ Nz.cps.toList)) := by
                  unfold allIn at c4 ⊢
                  rw [List.take_add_one, hx', List.all_append, c4]
                  simp
                refine ⟨rfl, .str ⟨#[c]⟩, rfl, c, Nz, rfl, rfl, _, rfl, ?_⟩
                by_cases e8 : decide (c ∈ Nz.cps.toList) = true
                · rw [e8, Bool.and_true] at e7
                  rw [e8]
                  exact ⟨c2, acc, c1, by omega, e7.symm⟩
                · have e8' : decide (c ∈ Nz.cps.toList) = false := by simpa using e8
                  rw [e8', Bool.and_false] at e7
                  rw [e8']
                  have : x.cps.size = x.length := rfl
                  refine ⟨.str ⟨#[c]⟩, rfl, acc, c1, by rw [sizeLine_eq]; omega, fun y o h => ?_, acc ++ [.str ⟨#[c]⟩], upd_same, by rw [List.length_append]; show acc.length + 1 ≤ _; omega, ?_⟩
                  · rw [upd_ne (ne_of_none h nD)]
                    exact c2 y o h
                  · rw [e7]
                    simp
              · obtain ⟨c2, acc, c1, c3, c4⟩ := hP
                have e9 : x.cps.toList.take x.cps.size = x.cps.toList := List.take_of_length_le (by simp)
                rw [e9] at c4
                refine ⟨by show 0 ≤ sizeLine; exact Nat.zero_le _, fun r nr => ⟨Dl, r, acc, rfl, rfl, new_ne c1 nr, upd_same, ?_⟩⟩
                rw [c4]
                exact qq _ (c2.trans (new_same nr))
            · have e4 : decide (c ∈ Lt.cps.toList) = false := by simpa using e3
              rw [e4] at qq ⊢
              exact qq H (Same.refl _)
          · rw [decide_eq_false (show ¬ ((x.length : Nat) : Int) < 21 by omega)]
            have z := q H (Same.refl _)
            have e0 : isN (.str x) = false := by
              show (decide (1 ≤ x.length) && decide (x.length ≤ 20) && (headIn x && allIn Nz x.cps.toList)) = _
              rw [decide_eq_false h2, Bool.and_false]
              rfl
            rw [e0] at z
            exact z
        · have h1 : ¬ 1 ≤ x.length := fun z => e1 (decide_eq_true (by omega))
          have z := q H (Same.refl _)
          have e0 : isN (.str x) = false := by
            show (decide (1 ≤ x.length) && decide (x.length ≤ 20) && (headIn x && allIn Nz x.cps.toList)) = _
            rw [decide_eq_false h1]
            rfl
          rw [e0] at z
          exact ⟨_, rfl, z⟩
end
end V9
/-! A number of a version, read by the law. -/
namespace V9
open PySem PySem.Spec PyProof.Rows L2 TL
def pre1 (w : PySem.Str) : Bool := decide (1 ≤ w.length) && decide (w.length ≤ 6) && allIn Fg w.cps.toList
def good (w : PySem.Str) : Bool := decide (V.str w = V.str "0") || headOk w
theorem shown_pre (w : PySem.Str) : shownB w = (pre1 w && good w) := by
  unfold shownB pre1 good
  simp only [Bool.and_assoc]
theorem pre_val {w : PySem.Str} (h : pre1 w = true) : ∃ n : Nat, intText? w = some (n : Int) ∧ val w = n ∧ n < 1000000 ∧ (n : Nat) = NumText.digitsVal w.cps.toList := by
  unfold pre1 at h
  simp only [Bool.and_eq_true, decide_eq_true_eq] at h
  have hd : NumText.AllDigits w.cps.toList := fun c hc => fg_mem (of_decide_eq_true (List.all_eq_true.mp h.2 c hc))
  have hne : w.cps.toList ≠ [] := fun e => by
    have : w.length = w.cps.toList.length := by simp [PySem.Str.length]
    rw [this, e] at h
    simp at h
  have e1 := intText_digits hd hne (by have := h.1.2; omega)
  obtain ⟨n, e2, z⟩ := digits_val h.1.1 h.1.2 h.2
  rw [e1] at e2
  have e3 : ((NumText.digitsVal w.cps.toList : Nat) : Int) = (n : Int) := Option.some.inj e2
  refine ⟨NumText.digitsVal w.cps.toList, e1, ?_, by omega, rfl⟩
  unfold val
  rw [e1]
  rfl
theorem back : ∀ (k : Nat) (l : List Nat), l.length = k → l ≠ [] → (∀ c ∈ l, 48 ≤ c ∧ c ≤ 57) → (l = [48] ∨ l.head? ≠ some 48) → numL (NumText.digitsVal l) = l := by
  intro k
  induction k with
  | zero => intro l h n; exact absurd (List.length_eq_zero_iff.mp h) n
  | succ k ih =>
    intro l h n hd hh
    have e := (List.dropLast_concat_getLast n).symm
    have hc := hd _ (List.getLast_mem n)
    generalize l.getLast n = c at e hc
    have lr : l.dropLast.length = k := by rw [List.length_dropLast]; omega
    have dr : ∀ c ∈ l.dropLast, 48 ≤ c ∧ c ≤ 57 := fun c h => hd c (List.dropLast_subset _ h)
    generalize l.dropLast = r at e lr dr
    have dv : NumText.digitsVal l = NumText.digitsVal r * 10 + (c - 48) := by
      unfold NumText.digitsVal
      rw [e, List.foldl_append]
      rfl
    by_cases hr : r = []
    · subst hr
      have : NumText.digitsVal l = c - 48 := by rw [dv]; show 0 * 10 + (c - 48) = _; omega
      rw [this, numL_lt (by omega), e]
      show [48 + (c - 48)] = [c]
      congr 1
      omega
    · have hh2 : r.head? ≠ some 48 := by
        rcases hh with z | z
        · rw [e] at z
          cases r with
          | nil => exact absurd rfl hr
          | cons a t => simp at z
        · rw [e] at z
          cases r with
          | nil => exact absurd rfl hr
          | cons a t => exact z
      have i := ih r lr hr dr (.inr hh2)
      have p : NumText.digitsVal r ≠ 0 := fun z => by
        rw [z] at i
        have : numL 0 = [48] := numL_lt (by decide)
        rw [this] at i
        rw [← i] at hh2
        exact hh2 rfl
      rw [dv, numL_step (by omega)]
      have d1 : (NumText.digitsVal r * 10 + (c - 48)) / 10 = NumText.digitsVal r := by omega
      have d2 : (NumText.digitsVal r * 10 + (c - 48)) % 10 = c - 48 := by omega
      rw [d1, d2, i, e]
      have : 48 + (c - 48) = c := by omega
      rw [this]
/-- shown again it is the same, just if it shows a number -/
theorem num_back {w : PySem.Str} (h : pre1 w = true) : num (val w) = w ↔ shownB w = true := by
  obtain ⟨n, _, e, z, en⟩ := pre_val h
  refine ⟨fun q => ?_, fun q => ?_⟩
  · rw [← q, e]
    exact (num_ok (n := (n : Int)) (by omega)).1
  · rw [e]
    refine ext_tl ?_
    have et : tl (num (n : Int)) = numL n := tl_num n
    rw [et, en]
    rw [shown_pre, h, Bool.true_and] at q
    unfold pre1 at h
    simp only [Bool.and_eq_true, decide_eq_true_eq] at h
    refine back _ _ rfl (fun e => ?_) (fun c hc => fg_mem (of_decide_eq_true (List.all_eq_true.mp h.2 c hc))) ?_
    · have : w.length = w.cps.toList.length := by simp [PySem.Str.length]
      rw [this, e] at h
      simp at h
    · unfold good at q
      rw [Bool.or_eq_true] at q
      rcases q with q | q
      · left
        have := of_decide_eq_true q
        injection this with this
        rw [this]
        decide +kernel
      · right
        unfold headOk at q
        cases hl : w.cps.toList with
        | nil => simp
        | cons c l =>
          rw [hl] at q
          simpa using q
theorem len_nil {w : PySem.Str} : decide (V.str w = V.str "") = decide (w.length = 0) := by
  refine decide_eq_decide.mpr ⟨fun z => ?_, fun z => ?_⟩
  · injection z with z
    rw [z]
    rfl
  · congr 1
    refine ext_tl ?_
    rw [(len0_tl w).mp z]
    rfl
abbrev sNumb : Stmt := topS 39
theorem scNumb : FnScope ["text", "sign"] ["text"] (defScope sNumb) := ⟨rfl, rfl, rfl, by decide +kernel, rfl, by decide +kernel, by decide +kernel⟩
section
variable {P : Program} {w : World} {K : PySem.W.Frag} {mg : PySem.Str → Option Value} {base : Heap}
def spNumb : Sp := fun vs H Q _ => ∃ x : PySem.Str, vs = [.str x] ∧ x.length ≤ 1000000 ∧ ∀ H', Same H H' → Q (if shownB x = true then .int (val x) else .non) H'
theorem ok_numb {f : Addr} {fd : FuncData} {k : Nat} (F : Fun K "_law_number" "_law_number" sNumb f fd) (mL : mg "len" = none) (mI : mg "int" = none) (mT : mg "str" = none) : FnOk P w K mg base CX0 (k + 1) f fd ["text"] spNumb := by
  refine F.ok scNumb (fun vs H Q E h => ?_) (fun cdv A outer s H vs Q E hr h => ?_)
  · obtain ⟨x, rfl, _⟩ := h
    rfl
  · obtain ⟨w, rfl, hwl, q⟩ := h
    refine ⟨_, pss_cons (ps_if (PW.pt (pw_or (pt_cmpR op_eq (pv 0) pe_str (nomark _)) (pw_or (pt_cmpR op_gt (pe_callB call_len_str (by rfl) mL PySem.boot_len (pa_cons (pv 0) pa_nil)) pe_int (nomark _))
            (pw_or1 (pt_cmpR (op_neL0 hr.units0) (pe_lc (own := [("sign", 1)]) (g := gName 1) rfl scNumb.nd (pi_str (pv 0)) (blkOk_by (N := ["text", "sign"]) (sc := defScope sNumb) (by decide +kernel))
              (fun _ _ _ _ _ => pg_name (i := 1) scNumb.nd rfl (Or.inl rfl)) (fun _ _ _ _ _ => pts_one (pt_cmpR op_notIn_sign (pv 1) pe_str (by rfl))) (fun _ _ _ _ _ => pv 1)) (pe_lst pa_nil) (nomark _)))))) (pss_one (ps_ret pe_non)) pss_nil)
      (pss_one (ps_ret (pe_ifExp (pt_cmpR op_eq (pe_callTy call_str_int (by rfl) mT (by decide +kernel) (pa_cons (pe_callTy call_int_str (by rfl) mI (by decide +kernel) (pa_cons (pv 0) pa_nil)) pa_nil)) (pv 0) (nomark _))
        (pe_callTy call_int_str (by rfl) mI (by decide +kernel) (pa_cons (pv 0) pa_nil)) pe_non))), ?_⟩
    have bad : ∀ H'', shownB w = false → Same H H'' → Q .non H'' := fun H'' e s => by
      have z := q H'' s
      rw [e] at z
      exact z
    have hz : w.length ≤ sizeLine := by rw [sizeLine_eq]; omega
    have sh := shown_pre w
    refine ⟨.str w, rfl, rfl, _, rfl, ?_⟩
    rw [len_nil]
    by_cases h0 : w.length = 0
    · rw [decide_eq_true h0]
      exact bad H (by rw [sh]; unfold pre1; rw [decide_eq_false (show ¬ 1 ≤ w.length by omega)]; rfl) (Same.refl _)
    rw [decide_eq_false h0]
    have h1 : 1 ≤ w.length := by omega
    refine ⟨.str w, rfl, w, rfl, hz, (w.length : Nat), 6, rfl, rfl, _, rfl, ?_⟩
    by_cases h6 : w.length ≤ 6
    case neg =>
      rw [decide_eq_true (show ((w.length : Nat) : Int) > 6 by omega)]
      exact bad H (by rw [sh]; unfold pre1; rw [decide_eq_false h6, Bool.and_false]; rfl) (Same.refl _)
    rw [decide_eq_false (show ¬ ((w.length : Nat) : Int) > 6 by omega)]
    refine ⟨.str w, rfl, w, rfl, fun Dl nD => ?_⟩
    refine lc_it (walk_str (z := w)) (fun j Hc => Same H Hc ∧ ∃ acc, Hc Dl = some (.lst acc) ∧ acc.length ≤ j ∧ acc.isEmpty = allIn Fg (w.cps.toList.take j)) ⟨new_same nD, [], upd_same, Nat.le_refl _, by rw [List.take_zero]; rfl⟩ (fun j Hc _ hP => trivial) ?_ (fun Hd hP => ?_)
    · rintro i v Hd H2 hi ⟨d2, acc, d1, d3, d4⟩ ⟨rfl, c, hc, rfl⟩
      have hc' : w.cps.toList[i]? = some c := by rw [Array.getElem?_toList]; exact hc
      have e7 : allIn Fg (w.cps.toList.take (i + 1)) = (acc.isEmpty && decide (c ∈ Fg.cps.toList)) := by
        unfold allIn at d4 ⊢
        rw [List.take_add_one, hc', List.all_append, d4]
        simp
      refine ⟨rfl, .str ⟨#[c]⟩, rfl, c, Fg, rfl, rfl, _, rfl, ?_⟩
      by_cases e8 : decide (c ∈ Fg.cps.toList) = true
      · rw [e8, Bool.and_true] at e7
        rw [e8]
        exact ⟨d2, acc, d1, by omega, e7.symm⟩
      · have e8' : decide (c ∈ Fg.cps.toList) = false := by simpa using e8
        rw [e8', Bool.and_false] at e7
        rw [e8']
        have : w.cps.size = w.length := rfl
        refine ⟨.str ⟨#[c]⟩, rfl, acc, d1, by rw [sizeLine_eq]; omega, fun y o h => ?_, acc ++ [.str ⟨#[c]⟩], upd_same, by rw [List.length_append]; show acc.length + 1 ≤ _; omega, ?_⟩
        · rw [upd_ne (ne_of_none h nD)]
          exact d2 y o h
        · rw [e7]
          simp
    · obtain ⟨d2, acc, d1, d3, d4⟩ := hP
      have e9 : w.cps.toList.take w.cps.size = w.cps.toList := List.take_of_length_le (by simp)
      rw [e9] at d4
      refine ⟨by show 0 ≤ sizeLine; exact Nat.zero_le _, fun r nr => ⟨Dl, r, acc, rfl, rfl, new_ne d1 nr, upd_same, _, rfl, ?_⟩⟩
      rw [d4]
      have sr : Same H (upd Hd r (.lst [])) := d2.trans (new_same nr)
      generalize upd Hd r (.lst []) = H3 at sr ⊢
      by_cases ea : allIn Fg w.cps.toList = true
      case neg =>
        have ea' : allIn Fg w.cps.toList = false := by simpa using ea
        rw [ea']
        exact bad H3 (by rw [sh]; unfold pre1; rw [ea', Bool.and_false]; rfl) sr
      rw [ea]
      have hpre : pre1 w = true := by unfold pre1; rw [decide_eq_true h1, decide_eq_true h6, ea]; rfl
      obtain ⟨n, hi, hv, hn, _⟩ := pre_val hpre
      have nb := num_back hpre
      rw [hv] at nb
      refine ⟨.str w, rfl, w, (n : Int), rfl, hi, by omega, n, rfl, int_log (by omega), .str w, rfl, rfl, _, rfl, ite2 (fun e => ?_) (fun e => ?_)⟩
      · have e' : num (n : Int) = w := by
          have := of_decide_eq_true e
          injection this
        have s := nb.mp e'
        have z := q H3 sr
        rw [s, if_pos rfl, hv] at z
        exact ⟨.str w, rfl, w, (n : Int), rfl, hi, by omega, z⟩
      · refine bad H3 ?_ sr
        cases hs : shownB w with
        | false => rfl
        | true => exact absurd (decide_eq_true (by rw [show PySem.Str.ofString (toString (n : Int)) = num (n : Int) from rfl, nb.mpr hs])) e
end
end V9
/-! set(xs), xs a tuple of texts. -/
namespace TX
open PySem PySem.Spec PyProof.Rows L2
section
variable {P : Program} {w : World} {A : Around} {E : Value → Shared → Prop} {s : Shared}
/-- set(xs), xs a tuple of texts -/
theorem set_ofT {l : Addr} {items : Array Value} (xs : List PySem.Str) {Q : Value → Shared → Prop} (hh : A.handled = none) (hl : s.heap.IsTuple l items) (hit : StrsAre items.toList xs) (few : xs.length + 1 < scanBound)
    (h : ∀ (h' : Heap) (tk : Nat), SX P w h' s.heap.objs.size xs → (∀ b o, s.heap.get? b = some o → h'.get? b = some o) → Q (.ref s.heap.objs.size) { s with heap := h', toks := tk }) :
    wpAny (model P w) A (call (.type "set") [.ref l]) Q E s := by
  have hisz : items.size = xs.length := by rw [← StrsAre.len_eq hit, Array.length_toList]
  obtain ⟨c, tl, hmro⟩ := F.called_set.mro
  have hmade := F.called_set.made; have hsub := F.called_set.sub
  refine wpAny_call (codeAny_of_tree ?_); show wpAny _ _ (callAny (.type "set") _) _ _ _
  refine wpAny_pure ⟨Code.quiet_builtin _ (by decide +kernel), codeAny_builtin F.entry_type_call ?_⟩; rw [Around.under_plain (weight_type_call_type "set" [.ref l] []) rfl]
  have h1 := F.called_set.notType; have h2 := F.called_set.canCreate; have hct := F.typeCall_set_1 (.ref l)
  repeat (any_goals (first | assumption | wp_step))
  refine codeAny_mono (code_set_led1 (.ref l) (E := E) (Q₁ := fun obj z => obj = .ref s.heap.objs.size ∧ z = { s with heap := s.heap.push (S0 w) }) ⟨rfl, rfl⟩) fun r z hr => ?_
  cases r with
  | error e => exact hr
  | ok fl =>
    cases fl with
    | ret obj =>
      obtain ⟨rfl, rfl⟩ := hr
      have hS : (s.heap.push (S0 w)).get? s.heap.objs.size = some (S0 w) := Heap.get?_push_size _ rfl
      have hT : Shared.TypeIs { s with heap := s.heap.push (S0 w) } (.ref s.heap.objs.size) "set" := ⟨_, hS, rfl⟩
      have hli := F.called_set.init.lookup; have hbi := F.called_set.init.bind (.ref s.heap.objs.size)
      repeat (any_goals (first | assumption | wp_step))
      refine codeAny_mono (codeAny_call_builtin (R := wants (fun r z => r = .none ∧ ∃ h' tk, z = { s with heap := h', toks := tk } ∧ SX P w h' s.heap.objs.size xs ∧ (∀ b o, s.heap.get? b = some o → h'.get? b = some o)) E)
        F.called_set.init.plain F.entry_set_init (check_set_init_1 hT ?_)) fun r2 z hr2 => ?_
      · obtain ⟨ol, hol, hcl, nl, hdl⟩ := hl
        obtain ⟨ocls, odict, odata, oslots⟩ := ol
        simp only at hcl hdl
        subst hcl; subst hdl
        have hol' : (s.heap.push (S0 w)).get? l = some { cls := .type "tuple", dict := odict, data := .seq items nl, slots := oslots } := Heap.get?_push_of_some _ hol
        have hsls := F.sub_tuple_set; have hslf := F.sub_tuple_frozenset
        have hne : (Value.type "tuple" == Value.type "dict") = false := by decide
        have hl1 : (s.heap.push (S0 w)).IsTuple l items := ⟨_, hol', rfl, nl, rfl⟩
        unfold Builtin.«set.__init__» noKeywords Builtin.Frozenset.updateFrom
        generalize hPI : pyIter = PI
        wp_walk
        subst hPI
        refine wpAny_pyIter_tuple hl1 (wpAny_bind (wpAny_runValue ?_))
        have hlS : l < s.heap.objs.size := Heap.lt_size hol
        have hh3 : A.in1.in1.in1.handled = none := by simp [hh]
        have hsz : (s.heap.push (S0 w)).objs.size = s.heap.objs.size + 1 := Heap.size_push ..
        have hneI : l ≠ (s.heap.push (S0 w)).objs.size := hsz ▸ Nat.ne_of_lt (Nat.lt_succ_of_lt hlS)
        have hSf : s.heap.objs.size ∉ [(s.heap.push (S0 w)).objs.size, l] := by
          rw [hsz]; simp only [List.mem_cons, List.mem_singleton, List.not_mem_nil, or_false, not_or]; exact ⟨Nat.ne_of_lt (Nat.lt_succ_self _), Nat.ne_of_gt hlS⟩
        have hval : ∀ (i : Nat) (v : Value), items[i]? = some v → ∃ x t, xs[i]? = some x ∧ v = .str x t := fun i v hv => by
          obtain ⟨t, e⟩ := SS.strs_at hit i v (by rw [Array.getElem?_toList]; exact hv)
          have hi : i < xs.length := by rw [← hisz]; exact (Array.getElem?_eq_some_iff.mp hv).1
          exact ⟨xs.getD i Str.empty, t, by rw [List.getD_eq_getElem?_getD, List.getElem?_eq_getElem hi]; rfl, e⟩
        refine fill_loop ((Walks.tuple hh3 _ l hneI items).toS) s.heap.objs.size hSf xs hisz few hval (items.size - 0) 0 _ (by omega) (Nat.zero_le _) ⟨⟨_, Heap.get?_push_size _ rfl, rfl, rfl⟩, (hl1.push _)⟩ ?hS0 ?hR
        case hS0 => exact SX.fresh (Heap.get?_push_of_some _ hS)
        case hR =>
          intro s' hm hS'
          obtain ⟨h', g2, d', tk', os'⟩ := s'
          have eg : g2 = s.gens := hm.gens
          have ed : d' = s.drawn := hm.drawn
          have eo : os' = s.os := hm.os
          subst eg; subst ed; subst eo
          show wpAny _ _ _ _ _ _
          refine wpAny_pure ?_
          show wpAny _ _ (ret Value.none) _ _ _
          refine wpAny_pure ⟨rfl, h', tk', rfl, hS', fun b o e => ?_⟩
          have hlt := Heap.lt_size e
          have n1 : b ≠ s.heap.objs.size := Nat.ne_of_lt hlt
          have n2 : b ≠ (s.heap.push (S0 w)).objs.size := hsz ▸ Nat.ne_of_lt (Nat.lt_succ_of_lt hlt)
          exact hm.heap b o (by simp only [List.mem_cons, List.mem_singleton, List.not_mem_nil, or_false, not_or]; exact ⟨n1, n2⟩) (Heap.get?_push_of_some _ (Heap.get?_push_of_some _ e))
      · cases r2 with
        | error e => exact hr2
        | ok fl2 =>
          cases fl2 with
          | ret r =>
            obtain ⟨rfl, h', tk, rfl, hS', hk⟩ := hr2
            repeat (any_goals (first | assumption | wp_step))
            exact h _ _ hS' hk
          | _ => exact hr2.elim
    | _ => exact hr.elim
end
section
variable {X : Cx}
theorem cr_setT (hc : X.calm = true) : CallR X (.type "set") (fun vs H Q => ∃ (l : Addr) (xs : List PySem.Str), vs = [.ref l] ∧ SqT X.K H l (xs.map V.str) ∧ xs.length < 64 ∧ ∀ a, H a = none → Q (.ref a) (upd H a (SXO X.prog X.w a xs))) := by
  intro pins s σ H vs us Q I r h
  obtain ⟨l, xs, rfl, hl, few, q⟩ := h
  rw [Vals.ref1 r]
  obtain ⟨its, rv, pl, hz⟩ := I.tuple hl
  have hn : H s.heap.objs.size = none := I.hok.fresh (Nat.le_refl _)
  refine set_ofT (P := X.prog) (w := X.w) xs (I.ok.hd hc) pl (by simpa using rv.strs) (by unfold scanBound; omega) fun h' tk R k => ?_
  exact ⟨.ref s.heap.objs.size, upd H s.heap.objs.size (SXO X.prog X.w s.heap.objs.size xs), I.laid (t' := tk) k (Nat.le_refl _) (sxo_new R), rfl, q _ hn⟩
/-- sorted(set(e)), e a tuple of texts -/
theorem pe_sortSetT {e : Expr} {te : TE} {p1 p2 p3 p4 : Pos} (hc : X.calm = true) (hg1 : Gl X "sorted") (hg2 : Gl X "set") (m1 : X.mg "sorted" = none) (m2 : X.mg "set" = none) (he : PE X e te)
    (h1 : starEach (e :: []) X.env = (false, eval e X.env) :: starEach [] X.env) :
    PE X (.Call (.Name "sorted" p1) [.Call (.Name "set" p2) [e] [] p3] [] p4) (fun σ H Q => te σ H fun x H1 => ∃ (l : Addr) (xs : List PySem.Str), x = .ref l ∧ H1 l = some (.tup (xs.map V.str)) ∧ xs.length < 64 ∧
      ∀ (H' : Hp) (p : Addr) (ys : List PySem.Str), (∀ a o, H1 a = some o → H' a = some o) → H' p = some (.lst (ys.map V.str)) → Asc ys → (∀ x, x ∈ ys ↔ x ∈ xs) → ys.length ≤ xs.length → Q (.ref p) H') := by
  constructor
  intro pins s σ H Q I h
  have he' : PE X e (fun σ H Q => ∃ M : V → Hp → Prop, te σ H M ∧ ∀ x H', M x H' → Q x H') := ⟨fun pins s σ H Q I ⟨M, h1, h2⟩ => thn (he.run pins s σ H M I h1) fun v s1 ⟨x, H1, I1, r, q⟩ => ⟨x, H1, I1, r, h2 x H1 q⟩⟩
  have R := pe_callB (X := X) (pos := p4) (p := p1) (cr_sortedX hc) hg1 m1 (by decide +kernel) (pa_cons (pe_callTy (pos := p3) (p := p2) (cr_setT hc) hg2 m2 (by decide +kernel) (pa_cons he' pa_nil h1) (by decide) (by decide) h1 (by rfl)) pa_nil) (by decide) (by decide) (by rfl) (by rfl)
  refine R.run pins s σ H Q I ⟨_, h, ?_⟩
  rintro x H1 ⟨l, xs, rfl, hl, few, q⟩
  refine ⟨l, xs, rfl, .inl (.inl hl), few, fun a na => ⟨a, xs, rfl, upd_same, few, fun ys p as mm le np => ?_⟩⟩
  have np1 : H1 p = none := by
    by_cases e : p = a
    · rw [e]; exact na
    · rw [upd_ne e] at np; exact np
  refine q _ p ys (fun b o hb => ?_) upd_same as mm le
  rw [upd_ne (ne_of_none hb np1), upd_ne (ne_of_none hb na)]
  exact hb
end
end TX
/-! What the law's own reader needs, purely. -/
namespace V9
open PySem PySem.Spec PyProof.Rows L2 TL
/-- the lines so far, when a lock is shown -/
theorem Rds.sofar {x : PySem.Str} {i : Nat} {L Es : List E3} (h : Rds Lln ((linesT x).take i) Es) (V : VL L) (e : showE L = x) : Es = L.take i := by
  rw [← e, lines_show V, ← List.map_take] at h
  exact Rds.lines (fun z hz => V.e z (List.mem_of_mem_take hz)) h
/-- a name that comes twice -/
theorem twice {x z : PySem.Str} {i : Nat} {Es : List E3} {n : PySem.Str} {r : List PySem.Str} (h : Rds Lln ((linesT x).take i) Es) (hz : (linesT x)[i]? = some z) (hw : Txt.split z Bk = ("lock" : PySem.Str) :: n :: r) (hn : n ∈ Es.map (·.1)) : lockT x = none := by
  refine lock_none fun L V e => ?_
  have e1 := h.sofar V e
  rw [← e, lines_show V, List.getElem?_map] at hz
  obtain ⟨y, hy, rfl⟩ := Option.map_eq_some_iff.mp hz
  rw [split_line (V.e y (List.mem_of_getElem? hy))] at hw
  have : y.1 = n := by
    unfold wordsE at hw
    injection hw with _ hw
    injection hw
  rw [e1, ← this, List.map_take] at hn
  have nd : (L.map (·.1)).Nodup := V.a.2
  exact take_fresh nd (by rw [List.getElem?_map, hy]; rfl) hn
/-- a part of a version as the law reads it -/
def nv (p : PySem.Str) : V := if shownB p = true then .int (val p) else .non
theorem nv_ok (p : PySem.Str) : okP (nv p) = shownB p := by
  unfold nv
  by_cases h : shownB p = true
  · rw [if_pos h, h]
    obtain ⟨n, e, z, _⟩ := shown_val h
    have ev : val p = (n : Int) := by unfold val; rw [e]; rfl
    show (decide (0 ≤ val p) && decide (val p < 1000000)) = true
    rw [ev, decide_eq_true (by omega), decide_eq_true (by omega)]
    rfl
  · rw [if_neg h]
    have : shownB p = false := by simpa using h
    rw [this]
    rfl
theorem nv_all (ps : List PySem.Str) : (ps.map nv).all okP = ps.all shownB := by
  induction ps with
  | nil => rfl
  | cons p ps ih => rw [List.map_cons, List.all_cons, List.all_cons, ih, nv_ok]
theorem nv_ints {ps : List PySem.Str} (h : ps.all shownB = true) : ps.map nv = (ps.map val).map V.int := by
  induction ps with
  | nil => rfl
  | cons p ps ih =>
    rw [List.all_cons, Bool.and_eq_true] at h
    rw [List.map_cons, List.map_cons, List.map_cons, ih h.2]
    unfold nv
    rw [if_pos h.1]
theorem read_nv (v : PySem.Str) : readV v = if (decide (((Txt.split v Dot).map nv).length = 3) && ((Txt.split v Dot).map nv).all okP) = true then some ((Txt.split v Dot).map val) else none := by
  unfold readV
  rw [nv_all, List.length_map]
  by_cases h : (Txt.split v Dot).length = 3 ∧ (Txt.split v Dot).all shownB = true
  · rw [if_pos h, if_pos (by rw [decide_eq_true h.1, h.2]; rfl)]
  · rw [if_neg h, if_neg (fun z => h ?_)]
    rw [Bool.and_eq_true] at z
    exact ⟨of_decide_eq_true z.1, z.2⟩
theorem shw_parts {H : Hp} : ∀ ps : List PySem.Str, ∃ ts c, Shw H (ps.map nv) 0 [] ts c
  | [] => ⟨_, _, .nil⟩
  | p :: ps => by
    obtain ⟨ts, c, r⟩ := shw_parts (H := H) ps
    rw [List.map_cons]
    have e := nv_ok p
    unfold nv at e ⊢
    by_cases h : shownB p = true
    · rw [if_pos h, h] at e
      rw [if_pos h]
      have e' : (decide (0 ≤ val p) && decide (val p < 1000000)) = true := e
      rw [Bool.and_eq_true, decide_eq_true_eq, decide_eq_true_eq] at e'
      exact ⟨_, _, .int (val p) (by omega) r⟩
    · rw [if_neg h]
      exact ⟨_, _, .non r⟩
theorem kn_parts {H : Hp} {a : Addr} {ps : List PySem.Str} (h : H a = some (.tup (ps.map nv))) : Kn H (.ref a) := by
  obtain ⟨ts, c, r⟩ := shw_parts (H := H) ps
  exact ⟨_, _, _, _, .tup h r (by simp) .nil⟩
end V9
/-! The law's own reader of locks. -/
namespace V9
open PySem PySem.Spec PyProof.Rows L2 TL
theorem ens_prs {H : Hp} {d : Addr} {ks : List (PySem.Str × V)} {L : List E3} (h : DW H d ks L) : ∀ S : List E3, (∀ e ∈ S, e ∈ L) → Ens H (prs ks (S.map (·.1))) S
  | [], _ => .nil
  | e :: S, k => by
    obtain ⟨v, h1, h2⟩ := h.get (k e List.mem_cons_self)
    rw [val_kk] at h1
    have ih := ens_prs h S fun z hz => k z (List.mem_cons_of_mem _ hz)
    have : prs ks ((e :: S).map (·.1)) = (e.1, v) :: prs ks (S.map (·.1)) := by
      show (e.1, (valV ks e.1).getD .non) :: prs ks (S.map (·.1)) = _
      rw [h1]
      rfl
    rw [this]
    exact .cons h2 ih
abbrev sLRead : Stmt := topS 40
abbrev NR : List PySem.Str := ["text", "found", "line", "words", "version", "part", "features", "name"]
theorem scLRead : FnScope NR ["text"] (defScope sLRead) := ⟨rfl, rfl, rfl, by decide +kernel, rfl, by decide +kernel, by decide +kernel⟩
/-- the law's defs that its reader calls -/
structure Pl (K : PySem.W.Frag) (mg : PySem.Str → Option Value) (gN gB gV gI gT gS : Addr) (eN eB eV eI eT eS : FuncData) : Prop where
  FN : Fun K "_law_is_a_name" "_law_is_a_name" sLName gN eN
  bN : Binds K eN ["thing"] []
  gN : mg "_law_is_a_name" = some (.ref gN)
  FB : Fun K "_law_number" "_law_number" sNumb gB eB
  bB : Binds K eB ["text"] []
  gB : mg "_law_number" = some (.ref gB)
  FV : Fun K "_law_is_version" "_law_is_version" sLIsVer gV eV
  bV : Binds K eV ["thing"] []
  gV : mg "_law_is_version" = some (.ref gV)
  FI : Fun K "_law_integer" "_law_integer" sInteger gI eI
  bI : Binds K eI ["thing"] []
  gI : mg "_law_integer" = some (.ref gI)
  FT : Fun K "_law_text_of_lock" "_law_text_of_lock" sLText gT eT
  bT : Binds K eT ["lock"] []
  gT : mg "_law_text_of_lock" = some (.ref gT)
  FS : Fun K "_law_shown_version" "_law_shown_version" sSaid gS eS
  bS : Binds K eS ["version"] []
  gS : mg "_law_shown_version" = some (.ref gS)
  mS : mg "isinstance" = none
  mT : mg "str" = none
  mL : mg "len" = none
  mU : mg "tuple" = none
  mI : mg "int" = none
  mB : mg "bool" = none
  mSo : mg "sorted" = none
  mSe : mg "set" = none
  mLi : mg "list" = none
  mD : mg "dict" = none
section
variable {P : Program} {w : World} {K : PySem.W.Frag} {mg : PySem.Str → Option Value} {base : Heap}
variable {gN gB gV gI gT gS : Addr} {eN eB eV eI eT eS : FuncData}
def spLR : Sp := fun vs H Q _ => ∃ x : PySem.Str, vs = [.str x] ∧ Tt x ∧ ∀ H' v, Same H H' → OL H' v x → Q v H'
theorem ok_lrd {f : Addr} {fd : FuncData} {k : Nat} (F : Fun K "_law_lock_read" "_law_lock_read" sLRead f fd) (T : Pl K mg gN gB gV gI gT gS eN eB eV eI eT eS) : FnOk P w K mg base CX0 (k + 3) f fd ["text"] spLR := by
  have GN : FnOk P w K mg base CX0 (k + 2) gN eN ["thing"] spIsN := ok_lname T.FN T.mS T.mT T.mL
  have GB : FnOk P w K mg base CX0 (k + 2) gB eB ["text"] spNumb := ok_numb T.FB T.mL T.mI T.mT
  have GV : FnOk P w K mg base CX0 (k + 2) gV eV ["thing"] spIsV := ok_lisver T.FV T.FI T.bI T.gI T.mS T.mI T.mB T.mU T.mL
  have GT : FnOk P w K mg base CX0 (k + 2) gT eT ["lock"] spShowL := ok_ltext T.FT T.FS T.bS T.gS T.mT T.mSo T.mLi
  refine F.ok scLRead (fun vs H Q E h => ?_) (fun cdv A outer s H vs Q E hr h => ?_)
  · obtain ⟨x, rfl, _⟩ := h
    rfl
  · have hu1 := Nat.lt_of_le_of_lt (Nat.add_le_add_left (show 1 ≤ 64 by decide) _) hr.units
    obtain ⟨x, rfl, tt, q⟩ := h
    refine ⟨_, pss_cons (ps_set (i := 1) scLRead.nd rfl (.inr rfl) pe_dnewK)
      (pss_cons (ps_for PassesOwn.never rfl (pi_list (pe_mid (pe_ifExp (pt_cmpR op_ne (pv 0) pe_str (nomark _)) (pe_split (pv 0) pe_str) (pe_lst pa_nil)))) (pg_name (i := 2) scLRead.nd rfl (Or.inl rfl))
        (pss_cons (ps_set (i := 3) scLRead.nd rfl (.inl rfl) (pe_split (pv 2) pe_str))
        (pss_cons (ps_if (PW.pt (pw_or (pt_cmpR op_lt (pe_callB call_len_seq (by rfl) T.mL PySem.boot_len (pa_cons (pv 3) pa_nil)) pe_int (nomark _))
            (pw_or (pt_cmpR op_ne (pe_ix ix_list (pv 3) pe_int (fun _ _ => rfl)) pe_str (nomark _))
            (pw_or (pt_not (pt_val (pe_call GN hr (by rfl) T.gN T.FN.kp T.bN .nil pass0 (pa_cons (pe_ix ix_list (pv 3) pe_int (fun _ _ => rfl)) pa_nil))))
            (pw_or1 (pt_cmp (pc_din hu1 (pe_ix ix_list (pv 3) pe_int (fun _ _ => rfl)) (pv 1)))))))) (pss_one (ps_ret pe_non)) pss_nil)
        (pss_cons (ps_set (i := 4) scLRead.nd rfl (.inl rfl) (pe_callTy call_tuple_of (by rfl) T.mU (by decide +kernel) (pa_cons (pe_lc (own := [("part", 5)]) (g := gName 5) rfl scLRead.nd (pi_list (pe_split (pe_ix ix_list (pv 3) pe_int (fun _ _ => rfl)) pe_str)) (blkOk_by (N := NR) (sc := defScope sLRead) (by decide +kernel))
            (fun _ _ _ _ _ => pg_name (i := 5) scLRead.nd rfl (Or.inl rfl)) (fun _ _ _ _ _ => pts_nil) (fun _ _ _ _ _ => pe_call GB hr (by rfl) T.gB T.FB.kp T.bB .nil pass0 (pa_cons (pv 5) pa_nil))) pa_nil)))
        (pss_cons (ps_set (i := 6) scLRead.nd rfl (.inl rfl) (pe_callTy call_tuple_of (by rfl) T.mU (by decide +kernel) (pa_cons (pe_slice sl_list (pv 3) (po_some pe_int) po_none) pa_nil)))
        (pss_cons (ps_if (PW.pt (pw_or (pt_not (pt_val (pe_call GV hr (by rfl) T.gV T.FV.kp T.bV .nil pass0 (pa_cons (pv 4) pa_nil))))
            (pw_or1 (pt_cmpR (op_neL0 hr.units0) (pe_lc (own := [("name", 7)]) (g := gName 7) rfl scLRead.nd (pi_tup (pv 6)) (blkOk_by (N := NR) (sc := defScope sLRead) (by decide +kernel))
              (fun _ _ _ _ _ => pg_name (i := 7) scLRead.nd rfl (Or.inl rfl)) (fun _ _ _ _ _ => pts_one (pt_not (pt_val (pe_call GN hr (by rfl) T.gN T.FN.kp T.bN .nil pass0 (pa_cons (pv 7) pa_nil))))) (fun _ _ _ _ _ => pv 7)) (pe_lst pa_nil) (nomark _))))) (pss_one (ps_ret pe_non)) pss_nil)
        (pss_cons (ps_dput hu1 (pv 1) (pe_ix ix_list (pv 3) pe_int (fun _ _ => rfl)) (pe_tup (pa_cons (pv 4) (pa_cons (pv 6) pa_nil))) (by rfl))
        (pss_one (ps_if (pt_cmpR (op_neD hr.units) (pe_callTy call_list_of (by rfl) T.mLi (by decide +kernel) (pa_cons (pv 6) pa_nil)) (TX.pe_sortSetT rfl (by rfl) (by rfl) T.mSo T.mSe (pv 6) (by rfl)) (nomark _)) (pss_one (ps_ret pe_non)) pss_nil)))))))))
      (pss_cons (ps_set (i := 1) scLRead.nd rfl (.inr rfl) (pe_callTy (call_dictP rfl) (by rfl) T.mD (by decide +kernel) (pa_cons (pe_lc (own := [("name", 7)]) (g := gName 7) rfl scLRead.nd (pi_list (pe_callB (call_sortedD rfl) (by rfl) T.mSo (by decide +kernel) (pa_cons (pv 1) pa_nil))) (blkOk_by (N := NR) (sc := defScope sLRead) (by decide +kernel))
          (fun _ _ _ _ _ => pg_name (i := 7) scLRead.nd rfl (Or.inl rfl)) (fun _ _ _ _ _ => pts_nil) (fun _ _ _ _ _ => pe_tup (pa_cons (pv 7) (pa_cons (pe_dget (Nat.lt_of_le_of_lt (Nat.add_le_add_left (by decide) _) hr.units) (pv 1) (pv 7) (fun _ _ => rfl)) pa_nil)))) pa_nil)))
      (pss_one (ps_ret (pe_ifExp (pt_cmpR op_eq (pe_call GT hr (by rfl) T.gT T.FT.kp T.bT .nil pass0 (pa_cons (pv 1) pa_nil)) (pv 0) (nomark _)) (pv 1) pe_non))))), ?_⟩
    have hz : sizeLine = 16777216 := sizeLine_eq
    have hxl := tt.t.1
    refine fun d nd => ⟨fun u H' => ∃ l, u = .ref l ∧ H' l = some (.lst ((linesT x).map V.str)) ∧ Same (upd H d (.dK [])) H', ?_, ?_⟩
    · refine ⟨_, rfl, rfl, _, rfl, ?_⟩
      by_cases h0 : x = ""
      · have e0 : (!decide (V.str x = V.str "")) = false := by rw [h0, decide_eq_true rfl]; rfl
        rw [e0]
        refine ⟨Nat.zero_le _, fun l nl => ⟨l, rfl, by rw [upd_same]; unfold linesT; rw [if_pos h0]; rfl, new_same nl⟩⟩
      · have e0 : (!decide (V.str x = V.str "")) = true := by rw [decide_eq_false (fun z => h0 (by injection z))]; rfl
        rw [e0]
        refine ⟨_, rfl, ⟨x, rfl⟩, x, Nl, rfl, rfl, by decide +kernel, by omega, fun l nl => ⟨l, rfl, by rw [upd_same]; unfold linesT; rw [if_neg h0], new_same nl⟩⟩
    · rintro u H1 ⟨l, rfl, hl, s1⟩
      have nd' := nd
      have hd1 : H1 d = some (.dK []) := s1 _ _ upd_same
      have dl : d ≠ l := fun e => by rw [e, hl] at hd1; cases hd1
      have sH : Same H H1 := (new_same nd).trans s1
      refine ⟨l, rfl, ⟨_, .inl (.inl hl)⟩, ?_⟩
      refine for_list (K := K) (a := l) (xs := (linesT x).map V.str) (fun i σ' H' => (∃ y2 y3 y4 y5 y6 y7, σ' = [some (.str x), some (.ref d), y2, y3, y4, y5, y6, y7]) ∧ H' l = some (.lst ((linesT x).map V.str)) ∧ Same H H' ∧
          ∃ ks L, DW H' d ks L ∧ Rds Lln ((linesT x).take i) L ∧ L.length ≤ i ∧ ∀ e ∈ L, e.2.2.length ≤ 60)
        ⟨⟨_, _, _, _, _, _, rfl⟩, hl, sH, [], [], ⟨hd1, List.nodup_nil, .nil⟩, .nil, Nat.zero_le _, (fun e he => by cases he)⟩ (fun i σ' H' _ hP => .inl (.inl hP.2.1)) (fun i v σ' H2 hx hP => ?_) (fun σ' H2 hP => ?_)
      · obtain ⟨⟨y2, y3, y4, y5, y6, y7, rfl⟩, hl2, s2, ks, L, dw, rd, ll, fw⟩ := hP
        rw [List.getElem?_map] at hx
        obtain ⟨z, hz1, rfl⟩ := Option.map_eq_some_iff.mp hx
        have zm : z ∈ linesT x := List.mem_of_getElem? hz1
        have ztx : Tx z := by
          unfold linesT at zm
          split at zm
          · cases zm
          · exact ((split_tx tl_nl (by decide +kernel) tt.t).1 z zm).1
        have wt := split_tx (x := z) tl_bk (by decide +kernel) ztx
        have wl := tt.w z zm
        have zl := ztx.1
        have bad : ∀ H'', Same H H'' → (∀ e, ¬ Lln (Txt.split z Bk) e) → Q .non H'' := fun H'' s no => q H'' .non s (.inl ⟨lock_none fun L' V => no_line zm (fun e pe => no e pe.1) V, rfl⟩)
        have dup : ∀ H'' n r, Same H H'' → Txt.split z Bk = ("lock" : PySem.Str) :: n :: r → n ∈ L.map (·.1) → Q .non H'' := fun H'' n r s e m => q H'' .non s (.inl ⟨twice rd hz1 e m, rfl⟩)
        refine ⟨_, rfl, ⟨z, rfl⟩, z, Bk, rfl, rfl, by decide +kernel, by omega, fun m nm => ?_⟩
        have s3 : Same H2 (upd H2 m (.lst ((Txt.split z Bk).map V.str))) := new_same nm
        have hm3 : upd H2 m (.lst ((Txt.split z Bk).map V.str)) m = some (.lst ((Txt.split z Bk).map V.str)) := upd_same
        generalize upd H2 m (.lst ((Txt.split z Bk).map V.str)) = H3 at s3 hm3 ⊢
        have txw : ∀ w ∈ Txt.split z Bk, Tx w := fun w hw => (wt.1 w hw).1
        have fin : ∀ e, Lln (Txt.split z Bk) e → Rds Lln ((linesT x).take (i + 1)) (L ++ [e]) := fun e pe => by
          rw [List.take_add_one, hz1]
          exact rd.snoc pe
        have s03 : Same H H3 := s2.trans s3
        have dw3 := dw.same s3
        have hl3 := s3 _ _ hl2
        have il : i < (linesT x).length := by
          rcases Nat.lt_or_ge i (linesT x).length with h | h
          · exact h
          · rw [List.getElem?_eq_none h] at hz1; cases hz1
        generalize Txt.split z Bk = ws at hm3 txw bad dup wl fin ⊢
        refine ⟨_, rfl, m, ws.map V.str, rfl, .inl (.inl (.inl hm3)), _, _, rfl, rfl, _, rfl, ?_⟩
        rw [List.length_map]
        by_cases h3 : ws.length < 3
        · rw [decide_eq_true (show ((ws.length : Nat) : Int) < 3 by omega)]
          refine bad H3 s03 fun e ⟨v, r, zz, _⟩ => ?_
          rw [zz] at h3
          simp at h3
          omega
        rw [decide_eq_false (show ¬ ((ws.length : Nat) : Int) < 3 by omega)]
        obtain ⟨a, n, v, r, rfl⟩ : ∃ a n v r, ws = a :: n :: v :: r := by
          match ws, h3 with
          | a :: n :: v :: r, _ => exact ⟨a, n, v, r, rfl⟩
          | [], h => exact absurd (Nat.zero_lt_succ _) h
          | [_], h => exact absurd (show 1 < 3 by omega) h
          | [_, _], h => exact absurd (show 2 < 3 by omega) h
        refine ⟨_, rfl, m, _, 0, .str a, rfl, rfl, .inl (.inl hm3), atI_nat (j := 0) rfl, rfl, _, rfl, ?_⟩
        by_cases h0 : a = "lock"
        case neg =>
          have e0 : (!decide (V.str a = V.str "lock")) = true := by rw [decide_eq_false (fun z => h0 (by injection z))]; rfl
          rw [e0]
          refine bad H3 s03 fun e ⟨v', r', zz, _⟩ => ?_
          injection zz with z1 _
          exact h0 z1
        subst h0
        have e0 : (!decide (V.str "lock" = V.str "lock")) = false := by rw [decide_eq_true rfl]; rfl
        rw [e0]
        refine ⟨_, rfl, m, _, 1, .str n, rfl, rfl, .inl (.inl hm3), atI_nat (j := 1) rfl, n, rfl, by have := (txw n (by simp)).1; omega, fun H4 s4 => ⟨_, rfl, ?_⟩⟩
        by_cases h1 : isName n = true
        case neg =>
          have h1' : isN (.str n) = false := by simpa [isName] using h1
          rw [h1']
          refine bad H4 (s03.trans s4) fun e ⟨v', r', zz, z2, _⟩ => ?_
          injection zz with _ zz
          injection zz with z1 _
          rw [z1] at h1
          exact h1 z2
        have h1' : isN (.str n) = true := h1
        rw [h1']
        have hm4 := s4 _ _ hm3
        have dw4 := dw3.same s4
        have s04 := s03.trans s4
        refine ⟨_, rfl, m, _, 1, .str n, rfl, rfl, .inl (.inl hm4), atI_nat (j := 1) rfl, _, rfl, d, _, rfl, DGet.k (k := Sum.inr n) dw4.at_, ?_⟩
        rw [val_kk]
        cases hvn : valV ks n with
        | some u =>
          refine ⟨_, rfl, ?_⟩
          refine dup H4 n _ s04 rfl ?_
          rw [← dw.en.keys]
          exact List.mem_map.mpr ⟨(n, u), mem_val hvn, rfl⟩
        | none =>
        have nn : n ∉ L.map (·.1) := fun mm => by
          rw [← dw.en.keys] at mm
          obtain ⟨u, hu⟩ := val_some mm
          rw [hvn] at hu
          cases hu
        refine ⟨_, rfl, ?_⟩
        have txv := txw v (by simp)
        have vlen := txv.1
        have vs1 := split_tx (x := v) tl_dot (by decide +kernel) txv
        have rn := read_nv v
        refine ⟨_, rfl, m, _, 2, .str v, rfl, rfl, .inl (.inl hm4), atI_nat (j := 2) rfl, ⟨v, rfl⟩, v, Dot, rfl, rfl, by decide +kernel, by omega, fun pl np => ⟨pl, rfl, ⟨_, .inl (.inl upd_same)⟩, fun D nD => ?_⟩⟩
        generalize Txt.split v Dot = pt at vs1 rn np nD ⊢
        have s5 : Same H4 (upd H4 pl (.lst (pt.map V.str))) := new_same np
        have hp5 : upd H4 pl (.lst (pt.map V.str)) pl = some (.lst (pt.map V.str)) := upd_same
        generalize upd H4 pl (.lst (pt.map V.str)) = H5 at s5 hp5 nD ⊢
        refine lc_it (walk_list (xs := pt.map V.str)) (fun j Hc => Hc D = some (.lst ((pt.take j).map nv)) ∧ Same H5 Hc) ⟨by rw [List.take_zero]; exact upd_same, new_same nD⟩ (fun j Hc _ hP => .inl (.inl (hP.2 _ _ hp5))) ?_ (fun Hc hP => ?_)
        · rintro j u Hc H' hj ⟨c1, c2⟩ ⟨rfl, hx'⟩
          rw [List.getElem?_map] at hx'
          obtain ⟨w, hw, rfl⟩ := Option.map_eq_some_iff.mp hx'
          have lj : j ≤ 900001 := by rw [List.length_map] at hj; omega
          refine ⟨rfl, _, rfl, w, rfl, by have := (vs1.1 w (List.mem_of_getElem? hw)).1.1; omega, fun H6 s6 => ⟨_, s6 _ _ c1, by rw [List.length_map, List.length_take]; omega, ?_, fun y o h => ?_⟩⟩
          · rw [upd_same, List.take_add_one, hw, List.map_append]
            rfl
          · rw [upd_ne (ne_of_none h nD)]
            exact s6 _ _ (c2 y o h)
        · obtain ⟨c1, c2⟩ := hP
          rw [List.length_map, List.take_length] at c1
          refine ⟨D, _, rfl, .inl ⟨.inl (.inl c1), fun t nt => ?_⟩⟩
          have s6 : Same Hc (upd Hc t (.tup (pt.map nv))) := new_same nt
          have ht6 : upd Hc t (.tup (pt.map nv)) t = some (.tup (pt.map nv)) := upd_same
          generalize upd Hc t (.tup (pt.map nv)) = H6 at s6 ht6 ⊢
          have s46 : Same H4 H6 := (s5.trans c2).trans s6
          have hm6 := s46 _ _ hm4
          refine ⟨_, rfl, 5, rfl, m, _, rfl, .inl (.inl hm6), fun mm nmm => ?_⟩
          rw [cut5]
          have s7 : Same H6 (upd H6 mm (.lst (((("lock" : PySem.Str) :: n :: v :: r).map V.str).drop 5))) := new_same nmm
          have hm7 : upd H6 mm (.lst (((("lock" : PySem.Str) :: n :: v :: r).map V.str).drop 5)) mm = some (.lst ((r.drop 2).map V.str)) := by
            rw [upd_same]
            show some (HO.lst ((r.map V.str).drop 2)) = _
            rw [List.map_drop]
          generalize upd H6 mm (.lst (((("lock" : PySem.Str) :: n :: v :: r).map V.str).drop 5)) = H7 at s7 hm7 ⊢
          refine ⟨mm, _, rfl, .inl ⟨.inl (.inl hm7), fun tf nf => ?_⟩⟩
          have s8 : Same H7 (upd H7 tf (.tup ((r.drop 2).map V.str))) := new_same nf
          have hf8 : upd H7 tf (.tup ((r.drop 2).map V.str)) tf = some (.tup ((r.drop 2).map V.str)) := upd_same
          generalize upd H7 tf (.tup ((r.drop 2).map V.str)) = H8 at s8 hf8 ⊢
          have s48 : Same H4 H8 := (s46.trans s7).trans s8
          have s08 := s04.trans s48
          have ht8 := s8 _ _ (s7 _ _ ht6)
          refine ⟨_, rfl, .ref t, rfl, kn_parts ht8, (fun a xs e hh => ?_), fun H9 s9 => ⟨_, rfl, ?_⟩⟩
          · cases e
            rw [ht8] at hh
            cases hh
            rw [List.length_map]
            have := vs1.2
            omega
          rw [isV_tup ht8]
          cases hv : (decide ((pt.map nv).length = 3) && (pt.map nv).all okP) with
          | false =>
            rw [hv, if_neg (by decide)] at rn
            refine bad H9 (s08.trans s9) fun e ⟨v', r', zz, _, z3, _⟩ => ?_
            injection zz with _ zz
            injection zz with _ zz
            injection zz with z1 _
            rw [← z1, rn] at z3
            cases z3
          | true =>
          rw [hv, if_pos rfl] at rn
          have hpt : pt.all shownB = true := by
            rw [Bool.and_eq_true, nv_all] at hv
            exact hv.2
          rw [nv_ints hpt] at ht8
          have hf9 := s9 _ _ hf8
          have txr : ∀ x ∈ r.drop 2, Tx x := fun x h => txw x (by simp [List.mem_of_mem_drop h])
          have lfs : (r.drop 2).length ≤ 57 := by
            simp only [List.length_cons] at wl
            rw [List.length_drop]
            omega
          have key : ∀ e, Lln (("lock" : PySem.Str) :: n :: v :: r) e → (∀ x ∈ r.drop 2, isName x = true) ∧ TX.Asc (r.drop 2) := fun e ⟨v', r', zz, _, _, z4, z5, z6⟩ => by
            injection zz with _ zz
            injection zz with _ zz
            injection zz with _ zz
            rw [← zz] at z4
            rw [z4] at z5 z6
            exact ⟨z5, z6⟩
          have pln : (∀ x ∈ r.drop 2, isName x = true) → TX.Asc (r.drop 2) → Lln (("lock" : PySem.Str) :: n :: v :: r) (n, pt.map val, r.drop 2) := fun w1 w2 => ⟨v, r, rfl, h1, rn, rfl, w1, w2⟩
          generalize r.drop 2 = fs at hf9 txr lfs key pln ⊢
          have s09 := s08.trans s9
          have s49 := s48.trans s9
          have ht9 := s9 _ _ ht8
          refine ⟨_, rfl, tf, rfl, ⟨_, .inl (.inl hf9)⟩, fun D2 nD2 => ?_⟩
          refine lc_it (walk_tup (xs := fs.map V.str)) (fun j Hc => Same H9 Hc ∧ ∃ acc, Hc D2 = some (.lst acc) ∧ acc.length ≤ j ∧ acc.isEmpty = (fs.take j).all isName) ⟨new_same nD2, [], upd_same, Nat.le_refl _, by rw [List.take_zero]; rfl⟩ (fun j Hc _ hP => .inl (.inl (hP.1 _ _ hf9))) ?_ (fun Hd hP => ?_)
          · rintro j u Hd H' hj ⟨d2, acc, d1, d3, d4⟩ ⟨rfl, hu⟩
            rw [List.getElem?_map] at hu
            obtain ⟨w, hw, rfl⟩ := Option.map_eq_some_iff.mp hu
            have lj : j ≤ 57 := by rw [List.length_map] at hj; omega
            have e7 : (fs.take (j + 1)).all isName = (acc.isEmpty && isName w) := by
              rw [List.take_add_one, hw, List.all_append, d4]
              simp
            refine ⟨rfl, _, rfl, w, rfl, by have := (txr w (List.mem_of_getElem? hw)).1; omega, fun Hx sx => ⟨_, rfl, ?_⟩⟩
            have ew : isN (.str w) = isName w := rfl
            rw [ew]
            cases e8 : isName w with
            | true =>
              rw [e8, Bool.and_true] at e7
              exact ⟨d2.trans sx, acc, sx _ _ d1, by omega, e7.symm⟩
            | false =>
              rw [e8, Bool.and_false] at e7
              refine ⟨_, rfl, acc, sx _ _ d1, by omega, fun y o h => ?_, acc ++ [.str w], upd_same, by rw [List.length_append]; show acc.length + 1 ≤ _; omega, ?_⟩
              · rw [upd_ne (ne_of_none h nD2)]
                exact sx _ _ (d2 y o h)
              · rw [e7]
                simp
          · obtain ⟨d2, acc, d1, d3, d4⟩ := hP
            rw [List.length_map, List.take_length] at d4
            refine ⟨by show 0 ≤ sizeLine; exact Nat.zero_le _, fun q0 nq => ⟨D2, q0, acc, rfl, rfl, new_ne d1 nq, upd_same, _, rfl, ?_⟩⟩
            rw [d4]
            have sr : Same H9 (upd Hd q0 (.lst [])) := d2.trans (new_same nq)
            generalize upd Hd q0 (.lst []) = Ha at sr ⊢
            cases e8 : fs.all isName with
            | false =>
              refine bad Ha (s09.trans sr) fun e pe => ?_
              have := List.all_eq_true.mpr (key e pe).1
              rw [e8] at this
              cases this
            | true =>
            have hnm : ∀ x ∈ fs, isName x = true := List.all_eq_true.mp e8
            refine ⟨_, rfl, _, rfl, by show 2 ≤ sizeLine; decide, fun e ne => ?_⟩
            have he : upd Ha e (.tup [.ref t, .ref tf]) e = some (.tup [.ref t, .ref tf]) := upd_same
            have sb : Same Ha (upd Ha e (.tup [.ref t, .ref tf])) := new_same ne
            generalize upd Ha e (.tup [.ref t, .ref tf]) = Hb at he sb ⊢
            have s9b := sr.trans sb
            have s4b := s49.trans s9b
            have dwb := dw4.same s4b
            have hfb := s9b _ _ hf9
            have ev : EW Hb (.ref e) ((n, pt.map val, fs) : E3).2 := ⟨e, t, tf, rfl, he, s9b _ _ ht9, hfb⟩
            have lk : (kk ks).length ≤ 40 := by
              have h1 := congrArg List.length dw.en.keys
              rw [List.length_map, List.length_map] at h1
              have := tt.l
              rw [kk_len]
              omega
            have hmb := s4b _ _ hm4
            refine ⟨_, rfl, _, rfl, m, _, 1, .str n, rfl, rfl, .inl (.inl hmb), atI_nat (j := 1) rfl, d, _, rfl, DPut.k (k := Sum.inr n) dwb.at_ (by omega), ?_⟩
            have dwc := dwb.put (e := (n, pt.map val, fs)) ev
            rw [putE_new (e := (n, pt.map val, fs)) nn] at dwc
            have outc : ∀ y o, y ≠ d → Hb y = some o → upd Hb d (.dK (putK (kk ks) (Sum.inr n) (.ref e))) y = some o := fun y o hne h => by rw [upd_ne hne]; exact h
            have fd : tf ≠ d := fun z => by rw [z, dwb.at_] at hfb; cases hfb
            have hlb := s9b _ _ (s49 _ _ (s4 _ _ hl3))
            have sHb := s09.trans s9b
            have dnone := nd'
            generalize upd Hb d (.dK (putK (kk ks) (Sum.inr n) (.ref e))) = Hc2 at dwc outc ⊢
            have hfc := outc _ _ fd hfb
            refine ⟨_, rfl, tf, _, rfl, .inr (.inl (.inl hfc)), fun q1 nq1 => ?_⟩
            have hq1 : upd Hc2 q1 (.lst (fs.map V.str)) q1 = some (.lst (fs.map V.str)) := upd_same
            have sq : Same Hc2 (upd Hc2 q1 (.lst (fs.map V.str))) := new_same nq1
            generalize upd Hc2 q1 (.lst (fs.map V.str)) = Hd3 at hq1 sq ⊢
            refine ⟨_, rfl, tf, fs, rfl, sq _ _ hfc, by omega, fun H' p ys s' hp as mm le => ?_⟩
            have txy : ∀ y ∈ ys, Tx y := fun y hy => txr y ((mm y).mp hy)
            refine ⟨.list (fs.map PyData.str), .list (ys.map PyData.str), .lst (.inl (.inl (s' _ _ hq1))) (dp_strs _), .lst (.inl (.inl hp)) (dp_strs _), shaped_txs txr, shaped_txs txy, _, rfl, ?_⟩
            have eqv : PyData.eqv (.list (fs.map PyData.str)) (.list (ys.map PyData.str)) = PyData.eqvAll (fs.map PyData.str) (ys.map PyData.str) := rfl
            rw [eqv]
            have ei := eqv_strs fs ys
            have outH : ∀ y o, y ≠ d → Hb y = some o → H' y = some o := fun y o hne h => s' _ _ (sq _ _ (outc y o hne h))
            have sHH : Same H H' := fun y o h => outH y o (fun z => by rw [z, dnone] at h; cases h) (sHb y o h)
            cases eb : PyData.eqvAll (fs.map PyData.str) (ys.map PyData.str) with
            | false =>
              refine bad H' sHH fun e' pe => ?_
              have a1 := (key e' pe).2
              have : fs = ys := TX.Asc.one a1 as fun x => (mm x).symm
              rw [eb] at ei
              exact absurd (ei.mpr this) (by decide)
            | true =>
              rw [eb] at ei
              have ef : fs = ys := ei.mp rfl
              have af : TX.Asc fs := by rw [ef]; exact as
              refine ⟨⟨_, _, _, _, _, _, rfl⟩, outH _ _ dl.symm hlb, sHH, _, _, (dwc.same sq).same s', fin _ (pln hnm af), by rw [List.length_append]; show L.length + 1 ≤ _; omega, fun y hy => ?_⟩
              rcases List.mem_append.mp hy with h | h
              · exact fw y h
              · rw [List.mem_singleton.mp h]
                show fs.length ≤ 60
                omega
      · obtain ⟨⟨y2, y3, y4, y5, y6, y7, rfl⟩, hl2, s2, ks, L, dw, rd, ll, fw⟩ := hP
        rw [List.length_map] at rd ll
        rw [List.take_length] at rd
        have hd := dw.at_
        have ndk : (ks.map (·.1)).Nodup := by rw [dw.en.keys]; exact dw.nd
        have lk : ks.length ≤ 40 := by
          have h1 := congrArg List.length dw.en.keys
          rw [List.length_map, List.length_map] at h1
          have := tt.l
          omega
        refine ⟨_, rfl, d, kk ks, ks.map (·.1), rfl, .inl hd, kk_keys ks, by rw [List.length_map]; omega, fun ys p pm ss np => ⟨p, rfl, ⟨_, .inl (.inl upd_same)⟩, fun D nD => ?_⟩⟩
        have s3 : Same H2 (upd H2 p (.lst (ys.map V.str))) := new_same np
        have hp1 : upd H2 p (.lst (ys.map V.str)) p = some (.lst (ys.map V.str)) := upd_same
        generalize upd H2 p (.lst (ys.map V.str)) = H3 at s3 hp1 nD ⊢
        have hd1 := s3 _ _ hd
        have Dp : p ≠ D := ne_of_none hp1 nD
        have Dd : d ≠ D := ne_of_none hd1 nD
        have yn : ys.Nodup := pm.nodup_iff.mpr ndk
        have yl : ys.length ≤ 40 := by rw [pm.length_eq, List.length_map]; exact lk
        refine lc_list (K := K) (a := p) (xs := ys.map V.str) (fun i Hc => (∃ L : List Pr, Hc D = some (.lst (rfs L)) ∧ (∀ q ∈ L, Hc q.1 = some (.tup [.str q.2.1, q.2.2])) ∧ L.map (·.2) = prs ks (ys.take i)) ∧ ∀ x o, x ≠ D → H3 x = some o → Hc x = some o)
          ⟨⟨[], upd_same, (fun q hq => by cases hq), rfl⟩, fun x o n e => by rw [upd_ne n]; exact e⟩ (fun i Hc _ hP => .inl (.inl (hP.2 _ _ Dp hp1))) (fun i x Hc hx hP => ?_) (fun Hc hP => ?_)
        · obtain ⟨⟨L, h1, hL, e0⟩, h2⟩ := hP
          rw [List.getElem?_map] at hx
          cases hz : ys[i]? with
          | none => rw [hz] at hx; cases hx
          | some z =>
            rw [hz] at hx
            cases hx
            obtain ⟨v, hv⟩ := val_some (pm.mem_iff.mp (List.mem_of_getElem? hz))
            have hdc := h2 _ _ Dd hd1
            refine ⟨rfl, _, rfl, _, rfl, _, rfl, d, v, rfl, ?_, by show 2 ≤ sizeLine; decide, fun r nr => ?_⟩
            · have := DGet.k (k := Sum.inr z) hdc
              rw [val_kk, hv] at this
              exact this
            · have hr1 : upd Hc r (.tup [.str z, v]) r = some (.tup [.str z, v]) := upd_same
              have h3 := new_ne (u := .tup [.str z, v]) h1 nr
              have h4 : ∀ q ∈ L ++ [(r, z, v)], upd Hc r (.tup [.str z, v]) q.1 = some (.tup [.str q.2.1, q.2.2]) := fun q hq => by
                rcases List.mem_append.mp hq with e | e
                · exact new_ne (hL q e) nr
                · rw [List.mem_singleton] at e
                  rw [e]; exact hr1
              have h5 : ∀ x o, x ≠ D → H3 x = some o → upd Hc r (.tup [.str z, v]) x = some o := fun x o n e => new_ne (h2 x o n e) nr
              generalize upd Hc r (.tup [.str z, v]) = Hd at h3 h4 h5 ⊢
              have ll : L.length ≤ 40 := by
                have := congrArg List.length e0
                rw [List.length_map, prs, List.length_map, List.length_take] at this
                omega
              refine ⟨rfs L, h3, by rw [List.length_map, sizeLine_eq]; omega, ⟨L ++ [(r, z, v)], ?_, fun q hq => ?_, ?_⟩, fun x o n e => by rw [upd_ne n]; exact h5 x o n e⟩
              · have e7 : rfs (L ++ [(r, z, v)]) = rfs L ++ [.ref r] := List.map_append
                rw [e7]
                exact upd_same
              · rw [upd_ne (fun e => by have := h4 q hq; rw [e, h3] at this; cases this)]
                exact h4 q hq
              · have e1 : ys.take (i + 1) = ys.take i ++ [z] := by rw [List.take_add_one, hz]; rfl
                have e2 : prs ks (ys.take i ++ [z]) = prs ks (ys.take i) ++ [(z, (valV ks z).getD .non)] := List.map_append
                rw [e1, e2, List.map_append, e0, hv]
                rfl
        · obtain ⟨⟨L2, h1, hL, e0⟩, h2⟩ := hP
          rw [List.length_map, List.take_of_length_le (Nat.le_refl _)] at e0
          have nd1 : ((L2.map (·.2)).map (·.1)).Nodup := by rw [e0, prs_keys]; exact yn
          refine ⟨D, L2.map (·.1), kk (L2.map (·.2)), rfl, .inl (.inl (by rw [h1, List.map_map]; rfl)), pairs_dict0 hL, fun r nr => ?_⟩
          have same : Same H2 Hc := fun x o e => h2 x o (ne_of_none (s3 _ _ e) nD) (s3 _ _ e)
          have hr : upd Hc r (.dK (mergeK [] (kk (L2.map (·.2))))) r = some (.dK (kk (L2.map (·.2)))) := by
            rw [merge_nd _ [] (by simpa using kk_nd nd1)]
            exact upd_same
          have sr : Same H2 (upd Hc r (.dK (mergeK [] (kk (L2.map (·.2)))))) := same.trans (new_same nr)
          generalize upd Hc r (.dK (mergeK [] (kk (L2.map (·.2))))) = He at hr sr ⊢
          rw [e0] at hr
          rw [dw.en.keys] at pm
          obtain ⟨S, pS, rfl⟩ := sort_of pm
          have dS : DW He r (prs ks (S.map (·.1))) S := ⟨hr, yn, ens_prs (dw.same sr) S fun e he => pS.mem_iff.mp he⟩
          have vb : ∀ e ∈ S, VB e := fun e he => by
            obtain ⟨ws, a⟩ := rd.all e (pS.mem_iff.mp he)
            exact (Lln.ve a).vb (fw e (pS.mem_iff.mp he))
          have lS : S.length ≤ 40 := by rw [List.length_map] at yl; exact yl
          have R : Rd3 x L L := ⟨rd, fun _ h => h, dw.nd, fun _ => rfl⟩
          refine ⟨_, rfl, r, prs ks (S.map (·.1)), S, rfl, dS, vb, lS, fun Hf S2 sf pS2 sS2 => ?_⟩
          have eS : S2 = S := perm_asc ⟨sS2, ((pS2.map (·.1)).nodup_iff).mpr yn⟩ ⟨ss, yn⟩ pS2
          subst eS
          have sHf : Same H Hf := (s2.trans sr).trans sf
          refine ⟨_, rfl, rfl, _, rfl, ite2 (fun e => ?_) (fun e => ?_)⟩
          · have e' : showE S2 = x := by
              have := of_decide_eq_true e
              injection this
            obtain ⟨_, eT⟩ := R.some pS sS2 e'
            exact ⟨_, rfl, q Hf _ sHf (.inr ⟨S2, r, _, eT, rfl, dS.same sf⟩)⟩
          · have e' : showE S2 ≠ x := fun z => e (decide_eq_true (by rw [z]))
            exact q Hf .non sHf (.inl ⟨R.none pS sS2 e', rfl⟩)
end
end V9
/-! Bent texts, purely: how many words, how many lines. -/
namespace V9
open PySem PySem.Spec PyProof.Rows L2 TL
theorem pre_one (s c : Nat) (r : List Nat) : pre [s] (c :: r) = decide (c = s) := by
  show ((c :: r).take 1 == [s]) = _
  by_cases h : c = s
  · rw [h, decide_eq_true rfl]
    simp
  · rw [decide_eq_false h]
    simp [h]
theorem spl_count (s : Nat) : ∀ (l acc : List Nat), (spl [s] 0 acc l).length = l.count s + 1
  | [], acc => by rw [spl_nil]; rfl
  | c :: r, acc => by
    by_cases h : c = s
    · rw [spl_hit (by rw [pre_one, decide_eq_true h])]
      show (acc :: spl [s] 0 [] r).length = _
      rw [List.length_cons, spl_count s r [], h, List.count_cons_self]
    · rw [spl_miss (by rw [pre_one, decide_eq_false h]), spl_count s r, List.count_cons_of_ne h]
theorem spl_free (s : Nat) : ∀ (l acc : List Nat), s ∉ acc → ∀ p ∈ spl [s] 0 acc l, s ∉ p
  | [], acc, h, p, hp => by
    rw [spl_nil, List.mem_singleton] at hp
    rw [hp]; exact h
  | c :: r, acc, h, p, hp => by
    by_cases e : c = s
    · rw [spl_hit (by rw [pre_one, decide_eq_true e])] at hp
      rcases List.mem_cons.mp hp with z | z
      · rw [z]; exact h
      · exact spl_free s r [] (by simp) p z
    · rw [spl_miss (by rw [pre_one, decide_eq_false e])] at hp
      refine spl_free s r _ (fun z => ?_) p hp
      rcases List.mem_append.mp z with y | y
      · exact h y
      · rw [List.mem_singleton] at y; exact e y.symm
theorem split_map {x y : PySem.Str} {s : Nat} (ey : tl y = [s]) (hk : y.cps.all (· < 256) = true) : (Txt.split x y).map tl = spl [s] 0 [] (tl x) := by
  rw [split_spl x y (by rw [ey]; simp) (kind_ok hk), ey]
theorem split_count {x y : PySem.Str} {s : Nat} (ey : tl y = [s]) (hk : y.cps.all (· < 256) = true) : (Txt.split x y).length = (tl x).count s + 1 := by
  have e := congrArg List.length (split_map (x := x) ey hk)
  rw [List.length_map, spl_count] at e
  exact e
theorem split_free {x y : PySem.Str} {s : Nat} (ey : tl y = [s]) (hk : y.cps.all (· < 256) = true) : ∀ w ∈ Txt.split x y, s ∉ tl w := fun w hw => by
  have h1 : tl w ∈ (Txt.split x y).map tl := List.mem_map_of_mem hw
  rw [split_map ey hk] at h1
  exact spl_free s _ _ (by simp) _ h1
theorem joinL_count (s : Nat) : ∀ ps : List (List Nat), (joinL [s] ps).count s ≤ (ps.map (·.count s)).sum + ps.length
  | [] => Nat.zero_le _
  | [p] => by show p.count s ≤ _; simp
  | p :: q :: r => by
    have ih := joinL_count s (q :: r)
    show (p ++ ([s] ++ joinL [s] (q :: r))).count s ≤ _
    rw [List.count_append, List.count_append, List.map_cons, List.sum_cons, List.length_cons]
    have : [s].count s = 1 := by simp
    omega
theorem joinL_count0 (s t : Nat) (h : s ≠ t) : ∀ ps : List (List Nat), (joinL [s] ps).count t = (ps.map (·.count t)).sum
  | [] => rfl
  | [p] => by show p.count t = _; simp
  | p :: q :: r => by
    have ih := joinL_count0 s t h (q :: r)
    show (p ++ ([s] ++ joinL [s] (q :: r))).count t = _
    rw [List.count_append, List.count_append, List.map_cons, List.sum_cons, ih]
    have : [s].count t = 0 := List.count_eq_zero.mpr (by simp [h.symm])
    omega
/-- a line, with at most w blanks, at most m signs -/
structure Ln (w m : Nat) (l : PySem.Str) : Prop where
  c : (tl l).count 32 ≤ w
  m : l.length ≤ m
  n : (10 : Nat) ∉ tl l
  o : ∀ c ∈ tl l, c < 0x110000
theorem Ln.up {w m w' m' : Nat} {l : PySem.Str} (h : Ln w m l) (a : w ≤ w') (b : m ≤ m') : Ln w' m' l := ⟨Nat.le_trans h.c a, Nat.le_trans h.m b, h.n, h.o⟩
/-- words put together again -/
theorem ln_join {ps : List PySem.Str} {k b u m : Nat} (hk : ps.length ≤ k) (hb : (ps.map fun p => (tl p).count 32).sum ≤ b) (hu : (ps.map (·.length)).sum ≤ u) (hp : ∀ p ∈ ps, (10 : Nat) ∉ tl p ∧ ∀ c ∈ tl p, c < 0x110000) : Ln (b + k) (u + k) (Txt.join Bk ps) := by
  refine ⟨?_, ?_, fun z => ?_, fun c hc => ?_⟩
  · rw [join_eq, tl_join, tl_bk]
    have h := joinL_count 32 (ps.map tl)
    rw [List.map_map, List.length_map] at h
    have e : ((fun x : List Nat => x.count 32) ∘ tl) = fun p : PySem.Str => (tl p).count 32 := rfl
    rw [e] at h
    omega
  · have h := join_len Bk ps
    have hl : Bk.length = 1 := by decide +kernel
    rw [hl] at h
    omega
  · rcases mem_join z with y | ⟨p, hm, y⟩
    · rw [tl_bk] at y; simp at y
    · exact (hp p hm).1 y
  · rcases mem_join hc with y | ⟨p, hm, y⟩
    · rw [tl_bk] at y; simp at y; omega
    · exact (hp p hm).2 c y
/-- what is carried: a text of so many lines -/
def Tb (n w m : Nat) (x : PySem.Str) : Prop := ∃ ls : List PySem.Str, ls ≠ [] ∧ x = Txt.join Nl ls ∧ ls.length ≤ n ∧ ∀ l ∈ ls, Ln w m l
theorem Tb.split {n w m : Nat} {x : PySem.Str} (h : Tb n w m x) : Txt.split x Nl ≠ [] ∧ x = Txt.join Nl (Txt.split x Nl) ∧ (Txt.split x Nl).length ≤ n ∧ ∀ l ∈ Txt.split x Nl, Ln w m l := by
  obtain ⟨ls, h1, rfl, h2, h3⟩ := h
  have e : Txt.split (Txt.join Nl ls) Nl = ls := split_join tl_nl (by decide +kernel) h1 fun p hp => (h3 p hp).n
  rw [e]
  exact ⟨h1, rfl, h2, h3⟩
theorem Tb.len {n w m : Nat} {x : PySem.Str} (h : Tb n w m x) : x.length ≤ n * (m + 1) ∧ ∀ c ∈ tl x, c < 0x110000 := by
  obtain ⟨ls, h1, rfl, h2, h3⟩ := h
  refine ⟨?_, fun c hc => ?_⟩
  · have h := join_len Nl ls
    have hl : Nl.length = 1 := by decide +kernel
    have hs := sum_le fun p hp => (h3 p hp).m
    rw [hl] at h
    have : ls.length * m + ls.length * 1 ≤ n * (m + 1) := by
      rw [← Nat.mul_add]
      exact Nat.mul_le_mul_right _ h2
    omega
  · rcases mem_join hc with y | ⟨p, hm, y⟩
    · rw [tl_nl] at y; simp at y; omega
    · exact (h3 p hm).o c y
theorem Tb.tt {n w m : Nat} {x : PySem.Str} (h : Tb n w m x) (hn : n ≤ 40) (hw : w ≤ 59) (hm : n * (m + 1) ≤ 900000) : Tt x := by
  obtain ⟨s1, _, s2, s3⟩ := h.split
  have hl := h.len
  refine ⟨⟨Nat.le_trans hl.1 hm, hl.2⟩, ?_, fun l hl => ?_⟩
  · unfold linesT
    split
    · exact Nat.zero_le _
    · exact Nat.le_trans s2 hn
  · have : l ∈ Txt.split x Nl := by
      unfold linesT at hl
      split at hl
      · cases hl
      · exact hl
    rw [split_count tl_bk (by decide +kernel)]
    have := (s3 l this).c
    omega
end V9
/-! A bent line. -/
namespace V9
open PySem PySem.Spec PyProof.Rows L2 TL
theorem ixN_nat {n j : Nat} (hj : j < n) : ixN n (j : Int) = some j := by
  unfold ixN
  rw [if_pos (by omega), if_pos (by omega)]
  rfl
/-- a word that may stand in a bent line -/
structure Wk (M : Nat) (p : PySem.Str) : Prop where
  c : (tl p).count 32 ≤ 1
  m : p.length ≤ M
  n : (10 : Nat) ∉ tl p
  o : ∀ c ∈ tl p, c < 0x110000
theorem Wk.join {ps : List PySem.Str} {k M : Nat} (hk : ps.length ≤ k) (h : ∀ p ∈ ps, Wk M p) : Ln (k + k) (k * M + k) (Txt.join Bk ps) := by
  refine ln_join (m := 0) hk ?_ ?_ fun p hp => ⟨(h p hp).n, (h p hp).o⟩
  · have : ∀ ps : List PySem.Str, (∀ p ∈ ps, (tl p).count 32 ≤ 1) → (ps.map fun p => (tl p).count 32).sum ≤ ps.length := by
      intro ps
      induction ps with
      | nil => intro _; exact Nat.le_refl _
      | cons p ps ih =>
        intro h
        rw [List.map_cons, List.sum_cons, List.length_cons]
        have := h p List.mem_cons_self
        have := ih fun q hq => h q (List.mem_cons_of_mem _ hq)
        omega
    exact Nat.le_trans (this ps fun p hp => (h p hp).c) hk
  · exact Nat.le_trans (sum_le fun p hp => (h p hp).m) (Nat.mul_le_mul_right _ hk)
theorem Ln.words {w m : Nat} {l : PySem.Str} (h : Ln w m l) (hm : m ≤ 900000) : (Txt.split l Bk).length ≤ w + 1 ∧ 1 ≤ (Txt.split l Bk).length ∧ ∀ p ∈ Txt.split l Bk, (32 : Nat) ∉ tl p ∧ p.length ≤ m ∧ (10 : Nat) ∉ tl p ∧ ∀ c ∈ tl p, c < 0x110000 := by
  have hc := split_count (x := l) tl_bk (by decide +kernel)
  refine ⟨by have := h.c; omega, by omega, fun p hp => ?_⟩
  have t := (split_tx (x := l) tl_bk (by decide +kernel) ⟨Nat.le_trans h.m hm, h.o⟩).1 p hp
  have f := split_free (x := l) tl_bk (by decide +kernel) p hp
  refine ⟨f, Nat.le_trans t.2 h.m, fun z => ?_, t.1.2⟩
  have h1 : tl p ∈ (Txt.split l Bk).map tl := List.mem_map_of_mem hp
  rw [split_map tl_bk (by decide +kernel)] at h1
  rcases spl_mem _ _ _ _ _ h1 10 z with y | y
  · cases y
  · exact h.n y
theorem wk_of {m : Nat} {p : PySem.Str} (h : (32 : Nat) ∉ tl p ∧ p.length ≤ m ∧ (10 : Nat) ∉ tl p ∧ ∀ c ∈ tl p, c < 0x110000) : Wk (m + 30) p := ⟨by rw [List.count_eq_zero.mpr h.1]; omega, by have := h.2.1; omega, h.2.2.1, h.2.2.2⟩
section
variable {X : Cx}
/-- a text some times over -/
theorem op_mulS : OpR X (binaryOp .Mult) (fun x y H Q => ∃ (z : PySem.Str) (n : Int), x = .str z ∧ y = .int n ∧ MulOk z n ∧ Q (.str (Txt.mul z n)) H) := by
  intro pins s σ H x y v u Q I rx ry h
  obtain ⟨z, n, rfl, rfl, hm, q⟩ := h
  obtain ⟨t, rfl⟩ := rx
  obtain ⟨t', rfl⟩ := ry
  exact SB.mul hm fun tk k => ⟨.str _, H, I.tok _, ⟨_, rfl⟩, q⟩
end
def MN : List PySem.Str := ["", ";", "with", "lock", "01.0.0", "1.0", "1.0.0.0", "1000000.0.0", "A", "-a", "aaaaaaaaaaaaaaaaaaaaa"]
def wkB (p : PySem.Str) : Bool := decide ((tl p).count 32 ≤ 1) && decide (p.length ≤ 30) && decide ((10 : Nat) ∉ tl p) && (tl p).all fun c => decide (c < 0x110000)
theorem wkB_ok {p : PySem.Str} (h : wkB p = true) (m : Nat) : Wk (m + 30) p := by
  unfold wkB at h
  simp only [Bool.and_eq_true, decide_eq_true_eq, List.all_eq_true] at h
  exact ⟨h.1.1.1, by have := h.1.1.2; omega, h.1.2, h.2⟩
theorem mn_ok : ∀ p ∈ MN, wkB p = true := by decide +kernel
abbrev sBLine : Stmt := topS 44
theorem scBLine : FnScope ["bag", "line", "words", "at", "way"] ["bag", "line"] (defScope sBLine) := ⟨rfl, rfl, rfl, by decide +kernel, rfl, by decide +kernel, by decide +kernel⟩
section
variable {P : Program} {w : World} {K : PySem.W.Frag} {mg : PySem.Str → Option Value} {base : Heap}
def spBLine : Sp := fun vs H Q _ => ∃ (b : Addr) (l : PySem.Str) (u m : Nat), vs = [.ref b, .str l] ∧ Bag H b ∧ Ln u m l ∧ u ≤ 60 ∧ m ≤ 100000 ∧ ∀ H' (l' : PySem.Str), Chb b H H' → Bag H' b → Ln (u + 2 + (u + 2)) ((u + 2) * (m + 30) + (u + 2)) l' → Q (.str l') H'
theorem ok_bline {f fT fO : Addr} {fd fdT fdO : FuncData} {k : Nat} (F : Fun K "_law_bent_line" "_law_bent_line" sBLine f fd) (FT : Fun K "_law_take" "_law_take" sTake fT fdT) (bT : Binds K fdT ["bag", "many"] []) (gT : mg "_law_take" = some (.ref fT))
    (FO : Fun K "_law_one" "_law_one" sOne fO fdO) (bO : Binds K fdO ["bag", "things"] []) (gO : mg "_law_one" = some (.ref fO)) (mI : mg "int" = none) (mL : mg "len" = none) : FnOk P w K mg base CX0 (k + 3) f fd ["bag", "line"] spBLine := by
  have GT : FnOk P w K mg base CX0 (k + 2) fT fdT ["bag", "many"] spTake := ok_take FT mI
  have GO : FnOk P w K mg base CX0 (k + 2) fO fdO ["bag", "things"] spOne := ok_one FO FT bT gT mI mL
  refine F.ok scBLine (fun vs H Q E h => ?_) (fun cdv A outer s H vs Q E hr h => ?_)
  · obtain ⟨b, l, u, m, rfl, _⟩ := h
    rfl
  · obtain ⟨b, l, u, m, rfl, hB, hl, hu, hm, q⟩ := h
    refine ⟨_, pss_cons (ps_set (i := 2) scBLine.nd rfl (.inl rfl) (pe_split (pv 1) pe_str))
      (pss_cons (ps_par (i := 3) (j := 4) rfl scBLine.nd rfl rfl (by decide) rfl rfl (pa_cons (pe_call GT hr (by rfl) gT FT.kp bT .nil pass0 (pa_cons (pv 0) (pa_cons (pe_callB call_len_seq (by rfl) mL PySem.boot_len (pa_cons (pv 2) pa_nil)) pa_nil))) (pa_cons (pe_call GT hr (by rfl) gT FT.kp bT .nil pass0 (pa_cons (pv 0) (pa_cons pe_int pa_nil))) pa_nil)) (by rfl))
      (C8.pss_cut (ps_if (pt_cmpR op_eq (pv 4) pe_int (nomark _)) (pss_one (ps_expr (pe_bm PySem.F.plainAttrs_list PySem.F.slot_list_pop PySem.F.type_list_pop mt_popAt (pv 2) (pa_cons (pv 3) pa_nil))))
        (pss_one (ps_if (pt_cmpR op_eq (pv 4) pe_int (nomark _)) (pss_one (ps_expr (pe_bm PySem.F.plainAttrs_list PySem.F.slot_list_insert PySem.F.type_list_insert mt_insert (pv 2) (pa_cons (pv 3) (pa_cons (pe_ix ix_list (pv 2) (pv 3) (fun _ _ => rfl)) pa_nil)))))
        (pss_one (ps_if (pt_cmpR op_eq (pv 4) pe_int (nomark _)) (pss_one (ps_asg (pe_tup (pa_cons (pe_ix ix_list (pv 2) (pe_sub (pv 3) pe_int) (fun _ _ => rfl)) (pa_cons (pe_ix ix_list (pv 2) (pv 3) (fun _ _ => rfl)) pa_nil))) (pg_tup rfl (pgs_cons (pg_sub (pv 2) (pv 3) set_list) (pgs_cons (pg_sub (pv 2) (pe_sub (pv 3) pe_int) set_list) pgs_nil)))))
        (pss_one (ps_if (pt_cmpR op_eq (pv 4) pe_int (nomark _)) (pss_one (ps_asg (pe_call GO hr (by rfl) gO FO.kp bO .nil pass0 (pa_cons (pv 0) (pa_cons (pe_lst (pa_cons pe_str (pa_cons pe_str (pa_cons pe_str (pa_cons pe_str (pa_cons pe_str (pa_cons pe_str (pa_cons pe_str (pa_cons pe_str (pa_cons pe_str (pa_cons pe_str (pa_cons (pe_op op_mulS pe_str pe_int) pa_nil)))))))))))) pa_nil))) (pg_sub (pv 2) (pv 3) set_list)))
        (pss_one (ps_asg (pe_call GO hr (by rfl) gO FO.kp bO .nil pass0 (pa_cons (pv 0) (pa_cons (pe_lst (pa_cons (pe_op op_add_str (pe_ix ix_list (pv 2) (pv 3) (fun _ _ => rfl)) pe_str) (pa_cons (pe_op op_add_str pe_str (pe_ix ix_list (pv 2) (pv 3) (fun _ _ => rfl))) (pa_cons (pe_slice sl_str (pe_ix ix_list (pv 2) (pv 3) (fun _ _ => rfl)) po_none (po_some (pe_un un_neg pe_int))) (pa_cons (pe_op op_add_str (pe_ix ix_list (pv 2) (pv 3) (fun _ _ => rfl)) pe_str) (pa_cons (pe_op op_add_str pe_str (pe_ix ix_list (pv 2) (pv 3) (fun _ _ => rfl))) pa_nil)))))) pa_nil))) (pg_sub (pv 2) (pv 3) set_list))))))))))
      (pss_one (ps_ret (pe_join pe_str (pv 2)))))), ?_⟩
    have hz : sizeLine = 16777216 := sizeLine_eq
    obtain ⟨w1, w2, w3⟩ := hl.words (by omega)
    have hlm := hl.m
    refine ⟨_, rfl, ⟨l, rfl⟩, l, Bk, rfl, rfl, by decide +kernel, by omega, fun p np => ?_⟩
    generalize Txt.split l Bk = ws at w1 w2 w3 ⊢
    obtain ⟨ob, hb⟩ := hB.lst
    obtain ⟨lc, cs0, O0, hlc, lcb⟩ := hB.own
    have pb : p ≠ b := (ne_of_none hb np).symm
    have pl : p ≠ lc := (ne_of_none hlc np).symm
    have np0 := np
    have c1 : Chb b H (upd H p (.lst (ws.map V.str))) := Chb.new np
    have B1 : Bag (upd H p (.lst (ws.map V.str))) b := hB.same (new_same np)
    have hp1 : upd H p (.lst (ws.map V.str)) p = some (.lst (ws.map V.str)) := upd_same
    generalize upd H p (.lst (ws.map V.str)) = H1 at c1 B1 hp1 ⊢
    refine ⟨_, rfl, _, rfl, p, ws.map V.str, rfl, .inl (.inl (.inl hp1)), b, _, rfl, B1, by rw [List.length_map]; omega, by rw [List.length_map]; omega, fun H2 at_ c2 B2 a0 a1 => ?_⟩
    refine ⟨_, rfl, b, 6, rfl, B2, by decide, by decide, fun H3 way c3 B3 v0 v1 => ⟨_, _, rfl, ?_⟩⟩
    have hp3 := c3 _ _ pb (c2 _ _ pb hp1)
    have c13 := (c1.trans c2).trans c3
    rw [List.length_map] at a1
    obtain ⟨i, rfl⟩ : ∃ i : Nat, at_ = (i : Int) := ⟨at_.toNat, by omega⟩
    have hi : i < ws.length := by omega
    have wk : ∀ q ∈ ws, Wk (m + 30) q := fun q hq => wk_of (w3 q hq)
    obtain ⟨wi, hwi⟩ : ∃ wi, ws[i]? = some wi := ⟨_, List.getElem?_eq_getElem hi⟩
    have wim := List.mem_of_getElem? hwi
    have ati : atI (ws.map V.str) (i : Int) = some (.str wi) := atI_nat (by rw [List.getElem?_map, hwi]; rfl)
    have out : ∀ (H' : Hp) (ps : List PySem.Str), Chb b H H' → Bag H' b → H' p = some (.lst (ws.map V.str)) → ps.length ≤ u + 2 → (∀ q ∈ ps, Wk (m + 30) q) → Chb b H (upd H' p (.lst (ps.map V.str))) ∧ Bag (upd H' p (.lst (ps.map V.str))) b ∧ ∃ ps' : List PySem.Str, upd H' p (.lst (ps.map V.str)) p = some (.lst (ps'.map V.str)) ∧ ps'.length ≤ u + 2 ∧ ∀ q ∈ ps', Wk (m + 30) q :=
      fun H' ps c B h k1 k2 => ⟨c.put np0 pb, (B.set (O0.chb c) pb pl).1, ps, upd_same, k1, k2⟩
    refine ⟨fun σ' H' => (∃ y3 y4, σ' = [some (.ref b), some (.str l), some (.ref p), y3, y4]) ∧ Chb b H H' ∧ Bag H' b ∧ ∃ ps : List PySem.Str, H' p = some (.lst (ps.map V.str)) ∧ ps.length ≤ u + 2 ∧ ∀ q ∈ ps, Wk (m + 30) q, ?_, ?_⟩
    · refine ⟨_, rfl, rfl, _, rfl, ite2 (fun e => ?_) (fun e => ?_)⟩
      · obtain ⟨k1, k2, k3⟩ := out H3 (ws.eraseIdx i) c13 B3 hp3 (Nat.le_trans (List.length_eraseIdx_le _ _) (by omega)) fun q hq => wk q (List.mem_of_mem_eraseIdx hq)
        have em : (ws.map V.str).eraseIdx i = (ws.eraseIdx i).map V.str := by rw [List.eraseIdx_eq_take_drop_succ, List.eraseIdx_eq_take_drop_succ, List.map_append, List.map_take, List.map_drop]
        refine ⟨_, rfl, .inl ⟨rfl, _, .inl (.inl hp3)⟩, _, rfl, p, ws.map V.str, (i : Int), i, .str wi, rfl, rfl, hp3, by omega, by omega, ?_, by rw [List.getElem?_map, hwi]; rfl, ?_⟩
        · rw [List.length_map]
          exact (ixN_seq (ixN_nat hi)).1
        · rw [em]
          exact ⟨⟨_, _, rfl⟩, k1, k2, k3⟩
      refine ⟨_, rfl, rfl, _, rfl, ite2 (fun e => ?_) (fun e => ?_)⟩
      · have ln : (ws.take i ++ [wi] ++ ws.drop i).length ≤ u + 2 := by
          rw [List.length_append, List.length_append, List.length_take, List.length_drop, List.length_singleton]
          omega
        obtain ⟨k1, k2, k3⟩ := out H3 (ws.take i ++ [wi] ++ ws.drop i) c13 B3 hp3 ln fun q hq => by
          rcases List.mem_append.mp hq with h | h
          · rcases List.mem_append.mp h with h | h
            · exact wk q (List.mem_of_mem_take h)
            · rw [List.mem_singleton.mp h]; exact wk _ wim
          · exact wk q (List.mem_of_mem_drop h)
        have em : (ws.map V.str).take (i : Int).toNat ++ [V.str wi] ++ (ws.map V.str).drop (i : Int).toNat = (ws.take i ++ [wi] ++ ws.drop i).map V.str := by
          rw [Int.toNat_natCast, List.map_append, List.map_append, List.map_take, List.map_drop]
          rfl
        refine ⟨_, rfl, .inl ⟨rfl, _, .inl (.inl hp3)⟩, _, rfl, _, rfl, _, rfl, p, _, (i : Int), .str wi, rfl, rfl, .inl (.inl hp3), ati, p, ws.map V.str, (i : Int), .str wi, rfl, rfl, hp3, by rw [List.length_map]; omega, by omega, by omega, ?_⟩
        rw [em]
        exact ⟨⟨_, _, rfl⟩, k1, k2, k3⟩
      refine ⟨_, rfl, rfl, _, rfl, ite2 (fun e => ?_) (fun e => ?_)⟩
      · obtain ⟨j, wj, hj, wjm, hwj, ixj⟩ : ∃ (j : Nat) (wj : PySem.Str), j < ws.length ∧ wj ∈ ws ∧ atI (ws.map V.str) ((i : Int) - 1) = some (.str wj) ∧ ixN ws.length ((i : Int) - 1) = some j := by
          have hx : ∃ j, j < ws.length ∧ ixN ws.length ((i : Int) - 1) = some j := by
            by_cases h0 : i = 0
            · refine ⟨ws.length - 1, by omega, ?_⟩
              unfold ixN
              rw [if_neg (by omega), if_pos (by omega)]
              congr 1
              omega
            · refine ⟨i - 1, by omega, ?_⟩
              unfold ixN
              rw [if_pos (by omega), if_pos (by omega)]
              congr 1
              omega
          obtain ⟨j, h1, h2⟩ := hx
          have hj : ws[j]? = some ws[j] := List.getElem?_eq_getElem h1
          refine ⟨j, ws[j], h1, List.getElem_mem h1, ?_, h2⟩
          unfold atI
          rw [List.length_map, h2]
          show (ws.map V.str)[j]? = _
          rw [List.getElem?_map, hj]
          rfl
        refine ⟨_, rfl, _, rfl, _, _, rfl, rfl, p, _, ((i : Int) - 1), .str wj, rfl, rfl, .inl (.inl hp3), hwj, _, rfl, _, rfl, p, _, (i : Int), .str wi, rfl, rfl, .inl (.inl hp3), ati, by show 2 ≤ sizeLine; decide, fun t nt => ?_⟩
        have B4 : Bag (upd H3 t (.tup [.str wj, .str wi])) b := B3.same (new_same nt)
        have hp4 := new_ne (u := .tup [.str wj, .str wi]) hp3 nt
        have c4 : Chb b H (upd H3 t (.tup [.str wj, .str wi])) := c13.trans (Chb.new nt)
        have ht4 : upd H3 t (.tup [.str wj, .str wi]) t = some (.tup [.str wj, .str wi]) := upd_same
        generalize upd H3 t (.tup [.str wj, .str wi]) = H4 at B4 hp4 c4 ht4 ⊢
        obtain ⟨k1, k2, k3⟩ := out H4 (ws.set i wj) c4 B4 hp4 (by rw [List.length_set]; omega) fun q hq => by
          rcases List.mem_or_eq_of_mem_set hq with h | h
          · exact wk q h
          · rw [h]; exact wk _ wjm
        have e1 : (ws.map V.str).set i (.str wj) = (ws.set i wj).map V.str := List.map_set.symm
        have e2 : ((ws.set i wj).map V.str).set j (.str wi) = ((ws.set i wj).set j wi).map V.str := List.map_set.symm
        refine ⟨t, _, rfl, .inl (.inl ht4), rfl, _, _, rfl, ⟨_, rfl, _, rfl, p, _, (i : Int), i, rfl, rfl, hp4, by rw [List.length_map]; exact ixN_nat hi, _, _, rfl, ⟨_, rfl, _, rfl, _, _, rfl, rfl, p, (ws.set i wj).map V.str, ((i : Int) - 1), j, rfl, rfl, ?_, by rw [List.length_map, List.length_set]; exact ixj, rfl, ?_⟩⟩⟩
        · rw [upd_same, e1]
        · rw [e2]
          have c5 : Chb b H (upd (upd H4 p (.lst ((ws.map V.str).set i (.str wj)))) p (.lst (((ws.set i wj).set j wi).map V.str))) := by rw [e1]; exact k1.put np0 pb
          have o5 : Own (upd H4 p (.lst ((ws.map V.str).set i (.str wj)))) b lc := by rw [e1]; exact O0.chb k1
          have B5 : Bag (upd (upd H4 p (.lst ((ws.map V.str).set i (.str wj)))) p (.lst (((ws.set i wj).set j wi).map V.str))) b := by rw [e1] at o5 ⊢; exact (k2.set o5 pb pl).1
          refine ⟨⟨_, _, rfl⟩, c5, B5, (ws.set i wj).set j wi, upd_same, by rw [List.length_set, List.length_set]; omega, fun q hq => ?_⟩
          rcases List.mem_or_eq_of_mem_set hq with h | h
          · rcases List.mem_or_eq_of_mem_set h with h | h
            · exact wk q h
            · rw [h]; exact wk _ wjm
          · rw [h]; exact wk _ wim
      refine ⟨_, rfl, rfl, _, rfl, ite2 (fun e => ?_) (fun e => ?_)⟩
      · have mk : MulOk ("a" : PySem.Str) 21 := ⟨by decide +kernel, fun _ _ => by decide +kernel, fun _ _ => by decide +kernel⟩
        have e21 : Txt.mul "a" 21 = "aaaaaaaaaaaaaaaaaaaaa" := by decide +kernel
        refine ⟨_, rfl, "a", 21, rfl, rfl, mk, by show 11 ≤ sizeLine; decide, fun t nt => ?_⟩
        rw [e21]
        have ht : upd H3 t (.lst [.str "", .str ";", .str "with", .str "lock", .str "01.0.0", .str "1.0", .str "1.0.0.0", .str "1000000.0.0", .str "A", .str "-a", .str "aaaaaaaaaaaaaaaaaaaaa"]) t = some (.lst (MN.map V.str)) := upd_same
        have hp4 := new_ne (u := .lst [.str "", .str ";", .str "with", .str "lock", .str "01.0.0", .str "1.0", .str "1.0.0.0", .str "1000000.0.0", .str "A", .str "-a", .str "aaaaaaaaaaaaaaaaaaaaa"]) hp3 nt
        have B4 : Bag (upd H3 t (.lst [.str "", .str ";", .str "with", .str "lock", .str "01.0.0", .str "1.0", .str "1.0.0.0", .str "1000000.0.0", .str "A", .str "-a", .str "aaaaaaaaaaaaaaaaaaaaa"])) b := B3.same (new_same nt)
        have c4 : Chb b H (upd H3 t (.lst [.str "", .str ";", .str "with", .str "lock", .str "01.0.0", .str "1.0", .str "1.0.0.0", .str "1000000.0.0", .str "A", .str "-a", .str "aaaaaaaaaaaaaaaaaaaaa"])) := c13.trans (Chb.new nt)
        have tb : t ≠ b := by
          obtain ⟨o3, hb3⟩ := B3.lst
          exact (ne_of_none hb3 nt).symm
        generalize upd H3 t (.lst [.str "", .str ";", .str "with", .str "lock", .str "01.0.0", .str "1.0", .str "1.0.0.0", .str "1000000.0.0", .str "A", .str "-a", .str "aaaaaaaaaaaaaaaaaaaaa"]) = H4 at ht hp4 B4 c4 ⊢
        refine ⟨b, t, MN.map V.str, rfl, B4, ht, tb, by decide, by decide, fun H5 x c5 B5 hx => ?_⟩
        obtain ⟨w, hw, rfl⟩ := List.mem_map.mp hx
        have hp5 := c5 _ _ pb hp4
        obtain ⟨k1, k2, k3⟩ := out H5 (ws.set i w) (c4.trans c5) B5 hp5 (by rw [List.length_set]; omega) fun q hq => by
          rcases List.mem_or_eq_of_mem_set hq with h | h
          · exact wk q h
          · rw [h]; exact wkB_ok (mn_ok w hw) m
        have e1 : (ws.map V.str).set i (.str w) = (ws.set i w).map V.str := List.map_set.symm
        refine ⟨_, rfl, _, rfl, p, _, (i : Int), i, rfl, rfl, hp5, by rw [List.length_map]; exact ixN_nat hi, ?_⟩
        rw [e1]
        exact ⟨⟨_, _, rfl⟩, k1, k2, k3⟩
      · have lw : wi.length ≤ m := (w3 wi wim).2.1
        have tl0 : tl "0" = [48] := by decide +kernel
        have tlm : tl "-" = [45] := by decide +kernel
        have tls : tl " " = [32] := by decide +kernel
        have l1 : ("0" : PySem.Str).length = 1 := by decide +kernel
        have l2 : ("-" : PySem.Str).length = 1 := by decide +kernel
        have l3 : (" " : PySem.Str).length = 1 := by decide +kernel
        have lz : wi.length + 1 ≤ sizeLine := by omega
        have L5 : ∀ q ∈ [wi ++ "0", "0" ++ wi, cutS wi none (some (-1)), wi ++ "-", " " ++ wi], Wk (m + 30) q := by
          obtain ⟨f1, f2, f3, f4⟩ := w3 wi wim
          have c0 : (tl wi).count 32 = 0 := List.count_eq_zero.mpr f1
          have app : ∀ x y : PySem.Str, (tl x).count 32 + (tl y).count 32 ≤ 1 → x.length + y.length ≤ m + 30 → (10 : Nat) ∉ tl x → (10 : Nat) ∉ tl y → (∀ c ∈ tl x, c < 0x110000) → (∀ c ∈ tl y, c < 0x110000) → Wk (m + 30) (x ++ y) := fun x y a1 a2 a3 a4 a5 a6 =>
            ⟨by rw [tl_append, List.count_append]; exact a1, by rw [app_len]; exact a2, by rw [tl_append, List.mem_append]; exact fun h => h.elim a3 a4, fun c hc => by rw [tl_append] at hc; exact (List.mem_append.mp hc).elim (a5 c) (a6 c)⟩
          have z0 : ∀ c ∈ tl "0", c < 0x110000 := by rw [tl0]; decide
          have zm : ∀ c ∈ tl "-", c < 0x110000 := by rw [tlm]; decide
          have zs : ∀ c ∈ tl " ", c < 0x110000 := by rw [tls]; decide
          intro q hq
          simp only [List.mem_cons, List.not_mem_nil, or_false] at hq
          rcases hq with h | h | h | h | h <;> rw [h]
          · exact app _ _ (by rw [c0, tl0]; decide) (by omega) f3 (by rw [tl0]; decide) f4 z0
          · exact app _ _ (by rw [c0, tl0]; decide) (by omega) (by rw [tl0]; decide) f3 z0 f4
          · have hc : ∀ k ∈ tl (cutS wi none (some (-1))), k ∈ tl wi := fun k hk => cut_mem hk
            refine ⟨?_, ?_, fun z => f3 (hc _ z), fun c z => f4 c (hc _ z)⟩
            · rw [List.count_eq_zero.mpr fun z => f1 (hc _ z)]; omega
            · have : (cutS wi none (some (-1))).length ≤ wi.length := by
                rw [len_tl, len_tl]
                show ((wi.cps.toList.drop _).take _).length ≤ _
                rw [List.length_take, List.length_drop]
                show _ ≤ wi.cps.toList.length
                omega
              omega
          · exact app _ _ (by rw [c0, tlm]; decide) (by omega) f3 (by rw [tlm]; decide) f4 zm
          · exact app _ _ (by rw [c0, tls]; decide) (by omega) (by rw [tls]; decide) f3 zs f4
        refine ⟨_, rfl, _, rfl, _, rfl, p, _, (i : Int), .str wi, rfl, rfl, .inl (.inl hp3), ati, wi, "0", rfl, rfl, by omega, ?_⟩
        refine ⟨_, rfl, _, rfl, p, _, (i : Int), .str wi, rfl, rfl, .inl (.inl hp3), ati, "0", wi, rfl, rfl, by omega, ?_⟩
        refine ⟨_, rfl, _, rfl, p, _, (i : Int), .str wi, rfl, rfl, .inl (.inl hp3), ati, 1, rfl, -1, rfl, wi, rfl, by omega, ?_⟩
        refine ⟨_, rfl, _, rfl, p, _, (i : Int), .str wi, rfl, rfl, .inl (.inl hp3), ati, wi, "-", rfl, rfl, by omega, ?_⟩
        refine ⟨_, rfl, _, rfl, p, _, (i : Int), .str wi, rfl, rfl, .inl (.inl hp3), ati, " ", wi, rfl, rfl, by omega, by show 5 ≤ sizeLine; decide, fun t nt => ?_⟩
        have ht : upd H3 t (.lst [.str (wi ++ "0"), .str ("0" ++ wi), .str (cutS wi none (some (-1))), .str (wi ++ "-"), .str (" " ++ wi)]) t = some (.lst ([wi ++ "0", "0" ++ wi, cutS wi none (some (-1)), wi ++ "-", " " ++ wi].map V.str)) := upd_same
        have hp4 := new_ne (u := .lst [.str (wi ++ "0"), .str ("0" ++ wi), .str (cutS wi none (some (-1))), .str (wi ++ "-"), .str (" " ++ wi)]) hp3 nt
        have B4 : Bag (upd H3 t (.lst [.str (wi ++ "0"), .str ("0" ++ wi), .str (cutS wi none (some (-1))), .str (wi ++ "-"), .str (" " ++ wi)])) b := B3.same (new_same nt)
        have c4 : Chb b H (upd H3 t (.lst [.str (wi ++ "0"), .str ("0" ++ wi), .str (cutS wi none (some (-1))), .str (wi ++ "-"), .str (" " ++ wi)])) := c13.trans (Chb.new nt)
        have tb : t ≠ b := by
          obtain ⟨o3, hb3⟩ := B3.lst
          exact (ne_of_none hb3 nt).symm
        generalize upd H3 t (.lst [.str (wi ++ "0"), .str ("0" ++ wi), .str (cutS wi none (some (-1))), .str (wi ++ "-"), .str (" " ++ wi)]) = H4 at ht hp4 B4 c4 ⊢
        refine ⟨b, t, _, rfl, B4, ht, tb, by simp, by show 5 ≤ 1000; decide, fun H5 x c5 B5 hx => ?_⟩
        obtain ⟨w, hw, rfl⟩ := List.mem_map.mp hx
        have hp5 := c5 _ _ pb hp4
        obtain ⟨k1, k2, k3⟩ := out H5 (ws.set i w) (c4.trans c5) B5 hp5 (by rw [List.length_set]; omega) fun q hq => by
          rcases List.mem_or_eq_of_mem_set hq with h | h
          · exact wk q h
          · rw [h]; exact L5 w hw
        have e1 : (ws.map V.str).set i (.str w) = (ws.set i w).map V.str := List.map_set.symm
        refine ⟨_, rfl, _, rfl, p, _, (i : Int), i, rfl, rfl, hp5, by rw [List.length_map]; exact ixN_nat hi, ?_⟩
        rw [e1]
        exact ⟨⟨_, _, rfl⟩, k1, k2, k3⟩
    · rintro σ' H' ⟨⟨y3, y4, rfl⟩, c, B, ps, hp, k1, k2⟩
      refine ⟨⟨_, rfl⟩, _, rfl, Bk, p, ps, rfl, rfl, .inl (.inl (.inl hp)), ?_, q _ _ c B (Wk.join k1 k2)⟩
      have := sum_le fun q hq => (k2 q hq).m
      have hb1 : Bk.length = 1 := by decide +kernel
      have h2 : ps.length * (m + 30) ≤ 62 * 100030 := Nat.mul_le_mul (by omega) (by omega)
      rw [hb1]
      omega
end
end V9
/-! A bent text. -/
namespace V9
open PySem PySem.Spec PyProof.Rows L2 TL
def uu (u : Nat) : Nat := u + 2 + (u + 2)
def mm (u m : Nat) : Nat := (u + 2) * (m + 30) + (u + 2)
theorem up_ok (u m : Nat) : u ≤ uu u ∧ u + 2 ≤ uu u ∧ m + 30 ≤ mm u m := by
  unfold uu mm
  have : 1 * (m + 30) ≤ (u + 2) * (m + 30) := Nat.mul_le_mul_right _ (by omega)
  omega
theorem joinL_snoc (S : List Nat) (q : List Nat) : ∀ ps : List (List Nat), ps ≠ [] → joinL S (ps ++ [q]) = joinL S ps ++ (S ++ q)
  | [], h => absurd rfl h
  | [p], _ => rfl
  | p :: r :: t, _ => by
    show p ++ (S ++ joinL S ((r :: t) ++ [q])) = (p ++ (S ++ joinL S (r :: t))) ++ (S ++ q)
    rw [joinL_snoc S q (r :: t) (by simp), List.append_assoc, List.append_assoc]
theorem join_snoc {y q : PySem.Str} {ps : List PySem.Str} (h : ps ≠ []) : Txt.join y (ps ++ [q]) = Txt.join y ps ++ (y ++ q) := by
  refine ext_tl ?_
  rw [join_eq, join_eq, tl_join, tl_append, tl_append, tl_join, List.map_append]
  exact joinL_snoc _ _ _ (by simpa using h)
theorem join_one (y q : PySem.Str) : Txt.join y [q] = q := by rw [join_eq]; rfl
def lnB (p : PySem.Str) : Bool := decide ((tl p).count 32 ≤ 5) && decide (p.length ≤ 30) && decide ((10 : Nat) ∉ tl p) && (tl p).all fun c => decide (c < 0x110000)
theorem lnB_ok {p : PySem.Str} (h : lnB p = true) {u m : Nat} (hu : 3 ≤ u) : Ln (uu u) (mm u m) p := by
  unfold lnB at h
  simp only [Bool.and_eq_true, decide_eq_true_eq, List.all_eq_true] at h
  have := (up_ok u m).2
  exact ⟨by have := h.1.1.1; omega, by have := h.1.1.2; omega, h.1.2, h.2⟩
def TL1 : List PySem.Str := ["", " ", "lock q 1.0.0", "lock b 0.0.0 ; with x", "# lock"]
def TL2 : List PySem.Str := ["\n", " ", " ;", " ; with", "x"]
theorem tl1_ok : ∀ p ∈ TL1, lnB p = true := by decide +kernel
theorem tb_end {n u m : Nat} {x s : PySem.Str} (h : Tb n u m x) (hs : s ∈ TL2) : Tb (n + 1) (uu u) (mm u m) (x ++ s) := by
  obtain ⟨ls, h1, rfl, h2, h3⟩ := h
  have U := up_ok u m
  by_cases hn : s = "\n"
  · refine ⟨ls ++ [("" : PySem.Str)], by simp, ?_, by rw [List.length_append]; simpa using h2, fun l hl => ?_⟩
    · rw [join_snoc h1, hn]
      rfl
    · rcases List.mem_append.mp hl with h | h
      · exact (h3 l h).up U.1 (by omega)
      · rw [List.mem_singleton.mp h]
        have e : tl "" = [] := by decide +kernel
        exact ⟨by rw [e]; exact Nat.zero_le _, by show 0 ≤ _; omega, by rw [e]; simp, fun c hc => by rw [e] at hc; cases hc⟩
  · have hb : ∀ s ∈ TL2, s ≠ "\n" → (decide ((tl s).count 32 ≤ 2) && decide (s.length ≤ 10) && decide ((10 : Nat) ∉ tl s) && (tl s).all fun c => decide (c < 0x110000)) = true := by
      have z : (TL2.all fun s => decide (s = "\n") || (decide ((tl s).count 32 ≤ 2) && decide (s.length ≤ 10) && decide ((10 : Nat) ∉ tl s) && (tl s).all fun c => decide (c < 0x110000))) = true := by decide +kernel
      intro s hs ne
      have := List.all_eq_true.mp z s hs
      rw [Bool.or_eq_true] at this
      rcases this with y | y
      · exact absurd (of_decide_eq_true y) ne
      · exact y
    have k := hb s hs hn
    simp only [Bool.and_eq_true, decide_eq_true_eq, List.all_eq_true] at k
    have e := (List.dropLast_concat_getLast h1).symm
    have hg := h3 _ (List.getLast_mem h1)
    have hd : ∀ l ∈ ls.dropLast, Ln u m l := fun l h => h3 l (List.dropLast_subset _ h)
    have hl : ls.dropLast.length + 1 = ls.length := by rw [List.length_dropLast]; have := List.length_pos_iff.mpr h1; omega
    generalize ls.getLast h1 = g at e hg
    generalize ls.dropLast = A at e hd hl
    refine ⟨A ++ [g ++ s], by simp, ?_, by rw [List.length_append]; show A.length + 1 ≤ _; omega, fun l hl => ?_⟩
    · rw [e]
      cases A with
      | nil => rw [List.nil_append, List.nil_append, join_one, join_one]
      | cons a A =>
        rw [join_snoc (by simp), join_snoc (by simp)]
        refine ext_tl ?_
        simp only [tl_append, List.append_assoc]
    · rcases List.mem_append.mp hl with h | h
      · exact (hd l h).up U.1 (by omega)
      · rw [List.mem_singleton.mp h]
        refine ⟨?_, ?_, fun z => ?_, fun c hc => ?_⟩
        · rw [tl_append, List.count_append]
          have := hg.c
          have := k.1.1.1
          omega
        · rw [app_len]
          have := hg.m
          have := k.1.1.2
          omega
        · rw [tl_append] at z
          exact (List.mem_append.mp z).elim hg.n k.1.2
        · rw [tl_append] at hc
          exact (List.mem_append.mp hc).elim (hg.o c) (k.2 c)
abbrev sBText : Stmt := topS 45
theorem scBText : FnScope ["bag", "text", "lines", "way", "at"] ["bag", "text"] (defScope sBText) := ⟨rfl, rfl, rfl, by decide +kernel, rfl, by decide +kernel, by decide +kernel⟩
section
variable {P : Program} {w : World} {K : PySem.W.Frag} {mg : PySem.Str → Option Value} {base : Heap}
def spBText : Sp := fun vs H Q _ => ∃ (b : Addr) (x : PySem.Str) (n u m : Nat), vs = [.ref b, .str x] ∧ Bag H b ∧ Tb n u m x ∧ (n ≤ 20 ∧ 3 ≤ u ∧ u ≤ 25 ∧ m ≤ 4500) ∧ ∀ H' (x' : PySem.Str), Chb b H H' → Bag H' b → Tb (n + 1) (uu u) (mm u m) x' → Q (.str x') H'
theorem ok_btext {f fT fO fL : Addr} {fd fdT fdO fdL : FuncData} {k : Nat} (F : Fun K "_law_bent_text" "_law_bent_text" sBText f fd) (FL : Fun K "_law_bent_line" "_law_bent_line" sBLine fL fdL) (bL : Binds K fdL ["bag", "line"] []) (gL : mg "_law_bent_line" = some (.ref fL))
    (FT : Fun K "_law_take" "_law_take" sTake fT fdT) (bT : Binds K fdT ["bag", "many"] []) (gT : mg "_law_take" = some (.ref fT))
    (FO : Fun K "_law_one" "_law_one" sOne fO fdO) (bO : Binds K fdO ["bag", "things"] []) (gO : mg "_law_one" = some (.ref fO)) (mI : mg "int" = none) (mL : mg "len" = none) : FnOk P w K mg base CX0 (k + 4) f fd ["bag", "text"] spBText := by
  have GT : FnOk P w K mg base CX0 (k + 3) fT fdT ["bag", "many"] spTake := ok_take FT mI
  have GO : FnOk P w K mg base CX0 (k + 3) fO fdO ["bag", "things"] spOne := ok_one FO FT bT gT mI mL
  have GL : FnOk P w K mg base CX0 (k + 3) fL fdL ["bag", "line"] spBLine := ok_bline FL FT bT gT FO bO gO mI mL
  refine F.ok scBText (fun vs H Q E h => ?_) (fun cdv A outer s H vs Q E hr h => ?_)
  · obtain ⟨b, x, n, u, m, rfl, _⟩ := h
    rfl
  · obtain ⟨b, x, n, u, m, rfl, hB, hx, ⟨hn, hu3, hu, hm⟩, q⟩ := h
    refine ⟨_, pss_cons (ps_par (i := 2) (j := 3) rfl scBText.nd rfl rfl (by decide) rfl rfl (pa_cons (pe_split (pv 1) pe_str) (pa_cons (pe_call GT hr (by rfl) gT FT.kp bT .nil pass0 (pa_cons (pv 0) (pa_cons pe_int pa_nil))) pa_nil)) (by rfl))
      (pss_cons (ps_set (i := 4) scBText.nd rfl (.inl rfl) (pe_call GT hr (by rfl) gT FT.kp bT .nil pass0 (pa_cons (pv 0) (pa_cons (pe_callB call_len_seq (by rfl) mL PySem.boot_len (pa_cons (pv 2) pa_nil)) pa_nil))))
      (C8.pss_cut (ps_if (pt_cmpR op_lt (pv 3) pe_int (nomark _)) (pss_one (ps_asg (pe_call GL hr (by rfl) gL FL.kp bL .nil pass0 (pa_cons (pv 0) (pa_cons (pe_ix ix_list (pv 2) (pv 4) (fun _ _ => rfl)) pa_nil))) (pg_sub (pv 2) (pv 4) set_list)))
        (pss_one (ps_if (pt_cmpR op_eq (pv 3) pe_int (nomark _)) (pss_one (ps_expr (pe_bm PySem.F.plainAttrs_list PySem.F.slot_list_insert PySem.F.type_list_insert mt_insert (pv 2) (pa_cons (pv 4) (pa_cons (pe_ix ix_list (pv 2) (pe_call GT hr (by rfl) gT FT.kp bT .nil pass0 (pa_cons (pv 0) (pa_cons (pe_callB call_len_seq (by rfl) mL PySem.boot_len (pa_cons (pv 2) pa_nil)) pa_nil))) (fun _ _ => rfl)) pa_nil)))))
        (pss_one (ps_if (pt_cmpR op_eq (pv 3) pe_int (nomark _)) (pss_one (ps_asg (pe_tup (pa_cons (pe_ix ix_list (pv 2) (pe_sub (pv 4) pe_int) (fun _ _ => rfl)) (pa_cons (pe_ix ix_list (pv 2) (pv 4) (fun _ _ => rfl)) pa_nil))) (pg_tup rfl (pgs_cons (pg_sub (pv 2) (pv 4) set_list) (pgs_cons (pg_sub (pv 2) (pe_sub (pv 4) pe_int) set_list) pgs_nil)))))
        (pss_one (ps_if (pt_cmpR op_eq (pv 3) pe_int (nomark _)) (pss_one (ps_expr (pe_bm PySem.F.plainAttrs_list PySem.F.slot_list_insert PySem.F.type_list_insert mt_insert (pv 2) (pa_cons (pe_call GT hr (by rfl) gT FT.kp bT .nil pass0 (pa_cons (pv 0) (pa_cons (pe_op op_add (pe_callB call_len_seq (by rfl) mL PySem.boot_len (pa_cons (pv 2) pa_nil)) pe_int) pa_nil))) (pa_cons (pe_call GO hr (by rfl) gO FO.kp bO .nil pass0 (pa_cons (pv 0) (pa_cons (pe_lst (pa_cons pe_str (pa_cons pe_str (pa_cons pe_str (pa_cons pe_str (pa_cons pe_str pa_nil)))))) pa_nil))) pa_nil)))))
        (pss_one (ps_ret (pe_op op_add_str (pv 1) (pe_call GO hr (by rfl) gO FO.kp bO .nil pass0 (pa_cons (pv 0) (pa_cons (pe_lst (pa_cons pe_str (pa_cons pe_str (pa_cons pe_str (pa_cons pe_str (pa_cons pe_str pa_nil)))))) pa_nil)))))))))))))
      (pss_one (ps_ret (pe_join pe_str (pv 2)))))), ?_⟩
    have hz : sizeLine = 16777216 := sizeLine_eq
    obtain ⟨w0, wj, w1, w3⟩ := hx.split
    have hxl := hx.len
    have U := up_ok u m
    have lx : x.length ≤ 20 * 4501 := Nat.le_trans hxl.1 (Nat.mul_le_mul hn (by omega))
    have tend : ∀ s ∈ TL2, Tb (n + 1) (uu u) (mm u m) (x ++ s) := fun s hs => tb_end hx hs
    refine ⟨_, rfl, ⟨x, rfl⟩, x, Nl, rfl, rfl, by decide +kernel, by omega, fun p np => ?_⟩
    generalize Txt.split x Nl = ws at w0 wj w1 w3 ⊢
    have w2 : 1 ≤ ws.length := List.length_pos_iff.mpr w0
    obtain ⟨ob, hb⟩ := hB.lst
    obtain ⟨lc, cs0, O0, hlc, lcb⟩ := hB.own
    have pb : p ≠ b := (ne_of_none hb np).symm
    have pl : p ≠ lc := (ne_of_none hlc np).symm
    have np0 := np
    have c1 : Chb b H (upd H p (.lst (ws.map V.str))) := Chb.new np
    have B1 : Bag (upd H p (.lst (ws.map V.str))) b := hB.same (new_same np)
    have hp1 : upd H p (.lst (ws.map V.str)) p = some (.lst (ws.map V.str)) := upd_same
    generalize upd H p (.lst (ws.map V.str)) = H1 at c1 B1 hp1 ⊢
    refine ⟨_, rfl, b, 8, rfl, B1, by decide, by decide, fun H2 way c2 B2 v0 v1 => ⟨_, _, rfl, ?_⟩⟩
    have hp2 := c2 _ _ pb hp1
    refine ⟨_, rfl, _, rfl, p, ws.map V.str, rfl, .inl (.inl (.inl hp2)), b, _, rfl, B2, by rw [List.length_map]; omega, by rw [List.length_map]; omega, fun H3 at_ c3 B3 a0 a1 => ?_⟩
    have hp3 := c3 _ _ pb hp2
    have c13 := (c1.trans c2).trans c3
    rw [List.length_map] at a1
    obtain ⟨i, rfl⟩ : ∃ i : Nat, at_ = (i : Int) := ⟨at_.toNat, by omega⟩
    have hi : i < ws.length := by omega
    have wk : ∀ q ∈ ws, Ln (uu u) (mm u m) q := fun q hq => (w3 q hq).up U.1 (by omega)
    obtain ⟨wi, hwi⟩ : ∃ wi, ws[i]? = some wi := ⟨_, List.getElem?_eq_getElem hi⟩
    have wim := List.mem_of_getElem? hwi
    have ati : atI (ws.map V.str) (i : Int) = some (.str wi) := atI_nat (by rw [List.getElem?_map, hwi]; rfl)
    have out : ∀ (H' : Hp) (ps : List PySem.Str), Chb b H H' → Bag H' b → ps ≠ [] → ps.length ≤ n + 1 → (∀ q ∈ ps, Ln (uu u) (mm u m) q) → Chb b H (upd H' p (.lst (ps.map V.str))) ∧ Bag (upd H' p (.lst (ps.map V.str))) b ∧ ∃ ps' : List PySem.Str, upd H' p (.lst (ps.map V.str)) p = some (.lst (ps'.map V.str)) ∧ ps' ≠ [] ∧ ps'.length ≤ n + 1 ∧ ∀ q ∈ ps', Ln (uu u) (mm u m) q :=
      fun H' ps c B k0 k1 k2 => ⟨c.put np0 pb, (B.set (O0.chb c) pb pl).1, ps, upd_same, k0, k1, k2⟩
    have ins : ∀ (k : Nat) (y : PySem.Str), k ≤ ws.length → Ln (uu u) (mm u m) y → (ws.take k ++ [y] ++ ws.drop k) ≠ [] ∧ (ws.take k ++ [y] ++ ws.drop k).length ≤ n + 1 ∧ (∀ q ∈ ws.take k ++ [y] ++ ws.drop k, Ln (uu u) (mm u m) q) ∧ (ws.map V.str).take (k : Int).toNat ++ [V.str y] ++ (ws.map V.str).drop (k : Int).toNat = (ws.take k ++ [y] ++ ws.drop k).map V.str := fun k y hk hy => by
      refine ⟨by simp, ?_, fun q hq => ?_, ?_⟩
      · rw [List.length_append, List.length_append, List.length_take, List.length_drop, List.length_singleton]
        omega
      · rcases List.mem_append.mp hq with h | h
        · rcases List.mem_append.mp h with h | h
          · exact wk q (List.mem_of_mem_take h)
          · rw [List.mem_singleton.mp h]; exact hy
        · exact wk q (List.mem_of_mem_drop h)
      · rw [Int.toNat_natCast, List.map_append, List.map_append, List.map_take, List.map_drop]
        rfl
    have nset : ∀ (k : Nat) (y : PySem.Str), ws.set k y ≠ [] := fun k y z => by
      have := congrArg List.length z
      rw [List.length_set] at this
      simp at this
      exact w0 this
    refine ⟨fun σ' H' => (∃ y3 y4, σ' = [some (.ref b), some (.str x), some (.ref p), y3, y4]) ∧ Chb b H H' ∧ Bag H' b ∧ ∃ ps : List PySem.Str, H' p = some (.lst (ps.map V.str)) ∧ ps ≠ [] ∧ ps.length ≤ n + 1 ∧ ∀ q ∈ ps, Ln (uu u) (mm u m) q, ?_, ?_⟩
    · refine ⟨_, rfl, _, _, rfl, rfl, _, rfl, ite2 (fun e => ?_) (fun e => ?_)⟩
      · have hl := w3 wi wim
        refine ⟨_, rfl, _, rfl, _, rfl, p, _, (i : Int), .str wi, rfl, rfl, .inl (.inl hp3), ati, b, wi, u, m, rfl, B3, hl, by omega, by omega, fun H4 l' c4 B4 hl' => ?_⟩
        have hp4 := c4 _ _ pb hp3
        obtain ⟨k1, k2, k3⟩ := out H4 (ws.set i l') (c13.trans c4) B4 (nset i l') (by rw [List.length_set]; omega) fun q hq => by
          rcases List.mem_or_eq_of_mem_set hq with h | h
          · exact wk q h
          · rw [h]; exact hl'
        have e1 : (ws.map V.str).set i (.str l') = (ws.set i l').map V.str := List.map_set.symm
        refine ⟨_, rfl, _, rfl, p, _, (i : Int), i, rfl, rfl, hp4, by rw [List.length_map]; exact ixN_nat hi, ?_⟩
        rw [e1]
        exact ⟨⟨_, _, rfl⟩, k1, k2, k3⟩
      refine ⟨_, rfl, rfl, _, rfl, ite2 (fun e => ?_) (fun e => ?_)⟩
      · refine ⟨_, rfl, .inl ⟨rfl, _, .inl (.inl hp3)⟩, _, rfl, _, rfl, _, rfl, _, rfl, p, _, rfl, .inl (.inl (.inl hp3)), b, _, rfl, B3, by rw [List.length_map]; omega, by rw [List.length_map]; omega, fun H4 k' c4 B4 k0 k1 => ?_⟩
        rw [List.length_map] at k1
        obtain ⟨j, rfl⟩ : ∃ j : Nat, k' = (j : Int) := ⟨k'.toNat, by omega⟩
        have hj : j < ws.length := by omega
        have hwj : ws[j]? = some ws[j] := List.getElem?_eq_getElem hj
        have hp4 := c4 _ _ pb hp3
        obtain ⟨i1, i2, i3, i4⟩ := ins i ws[j] (by omega) (wk _ (List.getElem_mem hj))
        obtain ⟨k1, k2, k3⟩ := out H4 _ (c13.trans c4) B4 i1 i2 i3
        refine ⟨p, _, (j : Int), .str ws[j], rfl, rfl, .inl (.inl hp4), atI_nat (by rw [List.getElem?_map, hwj]; rfl), p, ws.map V.str, (i : Int), .str ws[j], rfl, rfl, hp4, by rw [List.length_map]; omega, by omega, by omega, ?_⟩
        rw [i4]
        exact ⟨⟨_, _, rfl⟩, k1, k2, k3⟩
      refine ⟨_, rfl, rfl, _, rfl, ite2 (fun e => ?_) (fun e => ?_)⟩
      · obtain ⟨j, wj, hj, wjm, hwj, ixj⟩ : ∃ (j : Nat) (wj : PySem.Str), j < ws.length ∧ wj ∈ ws ∧ atI (ws.map V.str) ((i : Int) - 1) = some (.str wj) ∧ ixN ws.length ((i : Int) - 1) = some j := by
          have hx : ∃ j, j < ws.length ∧ ixN ws.length ((i : Int) - 1) = some j := by
            by_cases h0 : i = 0
            · refine ⟨ws.length - 1, by omega, ?_⟩
              unfold ixN
              rw [if_neg (by omega), if_pos (by omega)]
              congr 1
              omega
            · refine ⟨i - 1, by omega, ?_⟩
              unfold ixN
              rw [if_pos (by omega), if_pos (by omega)]
              congr 1
              omega
          obtain ⟨j, h1, h2⟩ := hx
          have hj : ws[j]? = some ws[j] := List.getElem?_eq_getElem h1
          refine ⟨j, ws[j], h1, List.getElem_mem h1, ?_, h2⟩
          unfold atI
          rw [List.length_map, h2]
          show (ws.map V.str)[j]? = _
          rw [List.getElem?_map, hj]
          rfl
        refine ⟨_, rfl, _, rfl, _, _, rfl, rfl, p, _, ((i : Int) - 1), .str wj, rfl, rfl, .inl (.inl hp3), hwj, _, rfl, _, rfl, p, _, (i : Int), .str wi, rfl, rfl, .inl (.inl hp3), ati, by show 2 ≤ sizeLine; decide, fun t nt => ?_⟩
        have B4 : Bag (upd H3 t (.tup [.str wj, .str wi])) b := B3.same (new_same nt)
        have hp4 := new_ne (u := .tup [.str wj, .str wi]) hp3 nt
        have c4 : Chb b H (upd H3 t (.tup [.str wj, .str wi])) := c13.trans (Chb.new nt)
        have ht4 : upd H3 t (.tup [.str wj, .str wi]) t = some (.tup [.str wj, .str wi]) := upd_same
        generalize upd H3 t (.tup [.str wj, .str wi]) = H4 at B4 hp4 c4 ht4 ⊢
        obtain ⟨k1, k2, k3⟩ := out H4 (ws.set i wj) c4 B4 (nset i wj) (by rw [List.length_set]; omega) fun q hq => by
          rcases List.mem_or_eq_of_mem_set hq with h | h
          · exact wk q h
          · rw [h]; exact wk _ wjm
        have e1 : (ws.map V.str).set i (.str wj) = (ws.set i wj).map V.str := List.map_set.symm
        have e2 : ((ws.set i wj).map V.str).set j (.str wi) = ((ws.set i wj).set j wi).map V.str := List.map_set.symm
        refine ⟨t, _, rfl, .inl (.inl ht4), rfl, _, _, rfl, ⟨_, rfl, _, rfl, p, _, (i : Int), i, rfl, rfl, hp4, by rw [List.length_map]; exact ixN_nat hi, _, _, rfl, ⟨_, rfl, _, rfl, _, _, rfl, rfl, p, (ws.set i wj).map V.str, ((i : Int) - 1), j, rfl, rfl, ?_, by rw [List.length_map, List.length_set]; exact ixj, rfl, ?_⟩⟩⟩
        · rw [upd_same, e1]
        · rw [e2]
          have c5 : Chb b H (upd (upd H4 p (.lst ((ws.map V.str).set i (.str wj)))) p (.lst (((ws.set i wj).set j wi).map V.str))) := by rw [e1]; exact k1.put np0 pb
          have o5 : Own (upd H4 p (.lst ((ws.map V.str).set i (.str wj)))) b lc := by rw [e1]; exact O0.chb k1
          have B5 : Bag (upd (upd H4 p (.lst ((ws.map V.str).set i (.str wj)))) p (.lst (((ws.set i wj).set j wi).map V.str))) b := by rw [e1] at o5 ⊢; exact (k2.set o5 pb pl).1
          refine ⟨⟨_, _, rfl⟩, c5, B5, (ws.set i wj).set j wi, upd_same, (fun z => by have := congrArg List.length z; rw [List.length_set, List.length_set] at this; simp at this; exact w0 this), by rw [List.length_set, List.length_set]; omega, fun q hq => ?_⟩
          rcases List.mem_or_eq_of_mem_set hq with h | h
          · rcases List.mem_or_eq_of_mem_set h with h | h
            · exact wk q h
            · rw [h]; exact wk _ wjm
          · rw [h]; exact wk _ wim
      refine ⟨_, rfl, rfl, _, rfl, ite2 (fun e => ?_) (fun e => ?_)⟩
      · refine ⟨_, rfl, .inl ⟨rfl, _, .inl (.inl hp3)⟩, _, rfl, _, rfl, p, _, rfl, .inl (.inl (.inl hp3)), _, _, rfl, rfl, b, _, rfl, B3, by rw [List.length_map]; omega, by rw [List.length_map]; omega, fun H4 k' c4 B4 k0 k1 => ?_⟩
        rw [List.length_map] at k1
        obtain ⟨j, rfl⟩ : ∃ j : Nat, k' = (j : Int) := ⟨k'.toNat, by omega⟩
        have hp4 := c4 _ _ pb hp3
        refine ⟨_, rfl, by show 5 ≤ sizeLine; decide, fun t nt => ?_⟩
        have ht : upd H4 t (.lst [.str "", .str " ", .str "lock q 1.0.0", .str "lock b 0.0.0 ; with x", .str "# lock"]) t = some (.lst (TL1.map V.str)) := upd_same
        have hp5 := new_ne (u := .lst [.str "", .str " ", .str "lock q 1.0.0", .str "lock b 0.0.0 ; with x", .str "# lock"]) hp4 nt
        have B5 : Bag (upd H4 t (.lst [.str "", .str " ", .str "lock q 1.0.0", .str "lock b 0.0.0 ; with x", .str "# lock"])) b := B4.same (new_same nt)
        have c5 : Chb b H (upd H4 t (.lst [.str "", .str " ", .str "lock q 1.0.0", .str "lock b 0.0.0 ; with x", .str "# lock"])) := (c13.trans c4).trans (Chb.new nt)
        have tb : t ≠ b := by
          obtain ⟨o3, hb3⟩ := B4.lst
          exact (ne_of_none hb3 nt).symm
        generalize upd H4 t (.lst [.str "", .str " ", .str "lock q 1.0.0", .str "lock b 0.0.0 ; with x", .str "# lock"]) = H5 at ht hp5 B5 c5 ⊢
        refine ⟨b, t, TL1.map V.str, rfl, B5, ht, tb, by decide, by decide, fun H6 y c6 B6 hy => ?_⟩
        obtain ⟨w, hw, rfl⟩ := List.mem_map.mp hy
        have hp6 := c6 _ _ pb hp5
        obtain ⟨i1, i2, i3, i4⟩ := ins j w (by omega) (lnB_ok (tl1_ok w hw) hu3)
        obtain ⟨k1, k2, k3⟩ := out H6 _ (c5.trans c6) B6 i1 i2 i3
        refine ⟨p, ws.map V.str, (j : Int), .str w, rfl, rfl, hp6, by rw [List.length_map]; omega, by omega, by omega, ?_⟩
        rw [i4]
        exact ⟨⟨_, _, rfl⟩, k1, k2, k3⟩
      · refine ⟨_, rfl, _, rfl, by show 5 ≤ sizeLine; decide, fun t nt => ?_⟩
        have ht : upd H3 t (.lst [.str "\n", .str " ", .str " ;", .str " ; with", .str "x"]) t = some (.lst (TL2.map V.str)) := upd_same
        have B5 : Bag (upd H3 t (.lst [.str "\n", .str " ", .str " ;", .str " ; with", .str "x"])) b := B3.same (new_same nt)
        have c5 : Chb b H (upd H3 t (.lst [.str "\n", .str " ", .str " ;", .str " ; with", .str "x"])) := c13.trans (Chb.new nt)
        have tb : t ≠ b := by
          obtain ⟨o3, hb3⟩ := B3.lst
          exact (ne_of_none hb3 nt).symm
        generalize upd H3 t (.lst [.str "\n", .str " ", .str " ;", .str " ; with", .str "x"]) = H5 at ht B5 c5 ⊢
        refine ⟨b, t, TL2.map V.str, rfl, B5, ht, tb, by decide, by decide, fun H6 y c6 B6 hy => ?_⟩
        obtain ⟨w, hw, rfl⟩ := List.mem_map.mp hy
        have lw : w.length ≤ 10 := by
          have z : (TL2.all fun s => decide (s.length ≤ 10)) = true := by decide +kernel
          exact of_decide_eq_true (List.all_eq_true.mp z w hw)
        exact ⟨x, w, rfl, rfl, by omega, q _ _ (c5.trans c6) B6 (tend w hw)⟩
    · rintro σ' H' ⟨⟨y3, y4, rfl⟩, c, B, ps, hp, k0, k1, k2⟩
      refine ⟨⟨_, rfl⟩, _, rfl, Nl, p, ps, rfl, rfl, .inl (.inl (.inl hp)), ?_, q _ _ c B ⟨ps, k0, rfl, k1, k2⟩⟩
      have h1 := sum_le fun q hq => (k2 q hq).m
      have hb1 : Nl.length = 1 := by decide +kernel
      have h3 : mm u m ≤ 130000 := by
        unfold mm
        have : (u + 2) * (m + 30) ≤ 27 * 4530 := Nat.mul_le_mul (by omega) (by omega)
        omega
      have h2 : ps.length * (mm u m) ≤ 21 * 130000 := Nat.mul_le_mul (by omega) (by omega)
      rw [hb1]
      omega
end
end V9
/-! A try whose first clause binds a name, others behind it. -/
namespace V9
open PySem PySem.Spec PyProof.Rows L2 TL
/-- what the clauses wish of an error that flies out of the body -/
def wFirst (K : PySem.W.Frag) (c : Value) (i : Nat) (ts : Addr → Value → Option Addr → TS) (l : List (Value × (Addr → Value → Option Addr → TS))) (D : Ends) : WX := fun cl d σ H =>
  ∃ b, PySem.W.exmOne K cl c = some b ∧ (b = true → ∀ a, H a = none → ts a cl d { nx := fun σ2 H2 => D.nx (σ2.set i none) H2, rt := D.rt, bk := fun σ2 H2 => D.bk (σ2.set i none) H2, ct := fun σ2 H2 => D.ct (σ2.set i none) H2 } (σ.set i (some (.ref a))) H) ∧
    (b = false → wMany K (fun _ _ _ _ => False) D l cl d σ H)
theorem ps_tryA {X : Cx} {x n : PySem.Str} {c : Value} {i : Nat} {body su : List Stmt} {b0 : Stmt} {np pos ps1 : Pos} {hds : List ExceptHandler} {l : List (Value × (Addr → Value → Option Addr → TS))} {tb : WX → TS} {ts : Addr → Value → Option Addr → TS}
    (st : X.stack = X.env :: X.outer) (fr : X.env.frame = some X.env.locals) (nd : X.N.Nodup) (hi : X.N[i]? = some n) (ln : X.env.kindOf n = some .local) (nm : Names X x c)
    (hb : ∀ (W : WX) (pn : List (Addr × Obj)) (xe : Value → Shared → Prop), Takes (X.tr pn xe) W → PassesOwn (model X.prog X.w) X.A X.env xe → PSs (X.tr pn xe) body (tb W))
    (hsu : ∀ (a : Addr) (oe : Obj) (cl : Value) (d : Option Addr) (pn : List (Addr × Obj)), Zc cl d oe → (∃ vs, oe.data = .fields vs) → PSs (X.suite a ((a, oe) :: pn)) (b0 :: su) (ts a cl d)) (hh : HdsOk X hds l) :
    PS X (.Try body (.ExceptHandler (some (.Name x np)) (some n) (b0 :: su) ps1 :: hds) [] [] pos) (fun D σ H => tb (wFirst X.K c i ts l D) D σ H) := by
  constructor
  intro pins s σ H D I h
  have ok := I.ok
  have tk0 : Takes X (fun _ _ _ _ => False) := takes_none5
  have frs1 : X.A.frames = some (X.env :: X.outer) := by rw [ok.frames, st]
  have lc : Loc X.env.scope n := .inl ln
  refine wpAny_Try_except (wpAny_mono ((hb (wFirst X.K c i ts l D) (X.pn ++ pins) (fun e z1 => wpAny (model X.prog X.w) X.A (noteFrame e X.env) (fun _ z2 => wpAny (model X.prog X.w) X.A (setFlight e none) (fun _ z3 =>
    wpAny (model X.prog X.w) X.A (handleBy e X.env (.ExceptHandler (some (.Name x np)) (some n) (b0 :: su) ps1 :: hds)) (SP X pins D) X.xe z3) X.xe z2) X.xe z1) (fun u z xx => ?_) PassesOwn.looking).run [] s σ H D (I.toTry _) h) (fun f z1 sp => ?_) (fun e z1 he => he))
  · obtain ⟨a, B, sI, pins2, σ1, H1, cl, d, rfl, J0, nb, up, sky, na, os, ag, b, e1, yes, no⟩ := xx
    have J : Inv X pins σ1 H1 sI := J0.ofTry ok
    have sky1 : Sky B (X.env :: X.outer) a (Zc cl d) X.env.locals z.heap := by rw [← st]; exact sky
    show wpAny (model X.prog X.w) X.A (noteFrame (.ref a) X.env) _ _ _
    refine Sky.land Zc.steady frs1 fr sky1 fun h3 fl3 up3 => ?_
    have J3 : Inv X pins σ1 H1 { z with heap := h3 } := J.landed nb fl3.1 (up.trans up3) os ag
    obtain ⟨o3, v3, he3, hz3, hd3⟩ := fl3.there
    have nfr : a ∉ frs (X.env :: X.outer) := fun hm => by
      obtain ⟨_, o', e', hnf⟩ := fl3.2.2.1.mem hm
      rw [he3] at e'; cases e'
      exact hnf _ hd3
    have nL : a ≠ X.env.locals := fun y => nfr (List.mem_filterMap.mpr ⟨X.env, List.mem_cons_self, by rw [fr, y]⟩)
    have nF : a ∉ X.fs := fun hm => by
      obtain ⟨e, he, q⟩ := List.mem_filterMap.mp hm
      exact nfr (List.mem_filterMap.mpr ⟨e, List.mem_cons_of_mem _ he, q⟩)
    have S3 := J3.suite he3 hd3 na nL nF
    have LT : PySem.W.Looks (model X.prog X.w) h3 (typeOf (.ref a)) cl := fun A Q E s k q => wpAny_typeOf_ref (k _ _ he3) (by rw [hz3.1]; exact q)
    have tst : ∀ {y : PySem.Str} {q : Pos} {c1 : Value}, Names X y c1 → ∀ {Q : Value → Shared → Prop} {E : Value → Shared → Prop}, Q c1 { z with heap := h3 } → wpAny (model X.prog X.w) (X.A.mark (some (.ref a))) (eval (.Name y q) X.env) Q E { z with heap := h3 } := fun {y q c1} nm {Q E} hq => by
      obtain ⟨hg, hdbg, hm | ⟨hm, hv, hnn⟩⟩ := nm
      · exact ld_glob (X := X.suite a ((a, o3) :: (X.pn ++ pins))) S3 hg hm hq hdbg
      · exact ld_blt (X := X.suite a ((a, o3) :: (X.pn ++ pins))) S3 hg hm hv hq hnn hdbg
    -- the clauses behind the first
    have rest : ∀ {hd1 : List ExceptHandler} {l1 : List (Value × (Addr → Value → Option Addr → TS))}, HdsOk X hd1 l1 → wMany X.K (fun _ _ _ _ => False) D l1 cl d σ1 H1 →
        wpAny (model X.prog X.w) X.A (handleBy (.ref a) X.env hd1) (SP X pins D) X.xe { z with heap := h3 } := by
      intro hd1 l1 hk
      induction hk with
      | nil => exact fun w => False.elim w
      | @cons y c1 t1 b1 su1 np1 ps2 hd2 l2 hc1 hs1 r1 ih =>
        rintro ⟨b, f1, y1, n1⟩
        refine wpAny_handleBy_cons (codeAny_handlers_test (tst hc1 ((PySem.W.exm_one (M := model X.prog X.w) J3.kIn LT f1).here ?_))) (by intro q; cases q)
        cases b with
        | false => exact ih (n1 rfl)
        | true =>
          refine codeAny_handlers_suite (HandSPX.lands_againZ fl3 fun h4 fl4 up4 => ?_)
          have J4 : Inv X pins σ1 H1 { z with heap := h4 } := J.landed nb fl4.1 ((up.trans up3).trans up4) os ag
          obtain ⟨o4, v4, he4, hz4, hd4⟩ := fl4.there
          refine wpAny_mono ((hs1 a o4 cl d (X.pn ++ pins) hz4 ⟨_, hd4⟩).run [] _ _ H1 _ (J4.suite he4 hd4 na nL nF) (y1 rfl a na)) (fun f s6 hp => ?_) (fun _ _ y => False.elim y)
          cases f with
          | ret u => obtain ⟨v6, σ6, H6, S6, r6, q6⟩ := hp; exact ⟨_, _, _, S6.unsuite ok, r6, q6⟩
          | next => obtain ⟨σ6, H6, S6, q6⟩ := hp; exact ⟨_, _, S6.unsuite ok, q6⟩
          | brk => obtain ⟨σ6, H6, S6, q6⟩ := hp; exact ⟨_, _, S6.unsuite ok, q6⟩
          | cont => obtain ⟨σ6, H6, S6, q6⟩ := hp; exact ⟨_, _, S6.unsuite ok, q6⟩
    -- the first clause
    refine wpAny_handleBy_cons (codeAny_handlers_test (tst nm ((PySem.W.exm_one (M := model X.prog X.w) J3.kIn LT e1).here ?_))) (by intro q; cases q)
    cases b with
    | false => exact rest hh (no rfl)
    | true =>
      refine codeAny_handlers_suite_as (HandSPX.lands_againZ fl3 fun h4 fl4 up4 => ?_)
      have J4 : Inv X pins σ1 H1 { z with heap := h4 } := J.landed nb fl4.1 ((up.trans up3).trans up4) os ag
      obtain ⟨o4, v4, he4, hz4, hd4⟩ := fl4.there
      refine store_ok (X := X.suite a ((a, o4) :: (X.pn ++ pins))) (v := .ref a) (J4.suite he4 hd4 na nL nF) nd hi lc rfl (fun s5 S5 => ?_) (.inr ln)
      refine wpAny_mono ((hsu a o4 cl d (X.pn ++ pins) hz4 ⟨_, hd4⟩).run [] s5 _ H1 _ S5 (yes rfl a na)) (fun f s6 hp => ?_) (fun _ _ y => False.elim y)
      have fin : ∀ {σ6 : L2.St} {H6 : Hp} {Q : Shared → Prop}, Inv (X.suite a ((a, o4) :: (X.pn ++ pins))) [] σ6 H6 s6 → (∀ s7, Inv X pins (σ6.set i none) H6 s7 → Q s7) →
          wpAny (model X.prog X.w) X.A (do bindName X.env n .none; unbindBehindTheSuite X.env n ps1) (fun _ s7 => Q s7) X.xe s6 := fun {σ6 H6 Q} S6 hq => gone_ok (S6.unsuite ok) nd hi ln hq
      cases f with
      | ret u => obtain ⟨v6, σ6, H6, S6, r6, q6⟩ := hp; exact fin S6 fun s7 J7 => ⟨_, _, _, J7, r6, q6⟩
      | next => obtain ⟨σ6, H6, S6, q6⟩ := hp; exact fin S6 fun s7 J7 => ⟨_, _, J7, q6⟩
      | brk => obtain ⟨σ6, H6, S6, q6⟩ := hp; exact fin S6 fun s7 J7 => ⟨_, _, J7, q6⟩
      | cont => obtain ⟨σ6, H6, S6, q6⟩ := hp; exact fin S6 fun s7 J7 => ⟨_, _, J7, q6⟩
  · cases f with
    | ret u => obtain ⟨v, σ1, H1, J1, r, q⟩ := sp; exact ⟨v, σ1, H1, J1.ofTry ok, r, q⟩
    | next => obtain ⟨σ1, H1, J1, q⟩ := sp; exact wpAny_execs_nil ⟨σ1, H1, J1.ofTry ok, q⟩
    | brk => obtain ⟨σ1, H1, J1, q⟩ := sp; exact ⟨σ1, H1, J1.ofTry ok, q⟩
    | cont => obtain ⟨σ1, H1, J1, q⟩ := sp; exact ⟨σ1, H1, J1.ofTry ok, q⟩
end V9
/-! What is heard of read_lock. -/
namespace V9
open PySem PySem.Spec PyProof.Rows L2 TL
abbrev sHeard : Stmt := topS 43
theorem scHeard : FnScope ["thing", "e"] ["thing"] (defScope sHeard) := ⟨rfl, rfl, rfl, by decide +kernel, rfl, by decide +kernel, by decide +kernel⟩
/-- of the errors' classes: Wrong at CW, PackError at CP -/
structure Ey (K : PySem.W.Frag) (mg : PySem.Str → Option Value) (CW CP : Addr) : Prop where
  xf : XfC K CW
  no : PySem.W.findIn K (.ref CW) "place" = some none
  nn : PySem.W.exmOne K (.ref CW) (.ref CW) = some true
  gP : mg "PackError" = some (.ref CP)
section
variable {P : Program} {w : World} {K : PySem.W.Frag} {mg : PySem.Str → Option Value} {base : Heap}
variable {fN fT fS fL fA fC fK fH fE fF fV : Addr} {dN dT dS dL dA dC dK dH dE dF dV : FuncData} {t1 t2 t3 t4 t5 : Tok}
def spHrd : Sp := fun vs H Q _ => (∃ v, vs = [v] ∧ NT K H v ∧ ∀ H' r, Same H H' → H' r = some (.tup [.str "wrong", .int 0]) → H r = none → Q (.ref r) H') ∨
  (∃ x : PySem.Str, vs = [.str x] ∧ Tt x ∧ ∀ H' r v, Same H H' → OL H' v x → H' r = some (.tup [.str "told", v]) → H r = none → Q (.ref r) H')
theorem ok_hrd {f fG : Addr} {fd fdG : FuncData} {k : Nat} {CW CP fI : Addr} {dI : FuncData} (F : Fun K "_law_heard" "_law_heard" sHeard f fd) (FG : Fun K "read_lock" "read_lock" sRdL fG fdG) (bG : Binds K fdG ["text"] []) (gG : mg "read_lock" = some (.ref fG))
    (T : Pn K mg fN fT fS fL fA fC dN dT dS dL dA dC t1 t2 t3 t4 t5) (S : Ps K mg fK fH fE fF fV dK dH dE dF dV) (X : Ex K mg CW fI dI) (Y : Ey K mg CW CP) : FnOk P w K mg base CX0 (k + 6) f fd ["thing"] (spHrd (K := K)) := by
  have GG : FnOk P w K mg base (L2.CX P w) (k + 5) fG fdG ["text"] (spRdL (K := K) CW) := ok_rdl FG T S X
  refine F.ok scHeard (fun vs H Q E h => ?_) (fun cdv A outer s H vs Q E hr h => ?_)
  · rcases h with ⟨v, rfl, _⟩ | ⟨x, rfl, _⟩ <;> rfl
  · refine ⟨_, pss_one (ps_tryA (c := .ref CW) (i := 1) rfl rfl scHeard.nd rfl rfl ⟨by rfl, by decide, .inl X.gW⟩
      (fun W pn xe tk _ => pss_one (ps_ret (pe_tup (pa_cons pe_str (pa_cons (by exact (pe_callS GG hr rfl gG FG.kp bG (fun σ => passAt tk σ) (by exact (pa_cons (pv 0) pa_nil)))) pa_nil)))))
      (fun a oe cls d pn hz hf => pss_one (ps_ret (pe_tup (pa_cons pe_str (pa_cons (pe_xf Y.xf Y.no hz hf (pv 1)) pa_nil)))))
      (.cons ⟨by rfl, by decide, .inl Y.gP⟩ (fun a oe cls d pn hz hf => pss_one (ps_ret (pe_tup (pa_cons pe_str pa_nil)))) .nil)), ?_⟩
    rcases h with ⟨v, rfl, nt, q⟩ | ⟨x, rfl, tt, q⟩
    · refine ⟨_, rfl, .inl ⟨v, rfl, nt, fun H' dd s' nd hx => ?_⟩⟩
      exact ⟨true, Y.nn, fun _ a na => ⟨.ref a, rfl, rfl, rfl, dd, _, _, rfl, hx, rfl, by show 2 ≤ sizeLine; decide, fun r nr => q _ r (s'.trans (new_same nr)) upd_same (same_no s' nr)⟩, fun z => nomatch z⟩
    · refine ⟨_, rfl, .inr ⟨x, rfl, tt, fun H' v s' ol _ => ⟨by show 2 ≤ sizeLine; decide, fun r nr => q _ r v (s'.trans (new_same nr)) ?_ upd_same (same_no s' nr)⟩⟩⟩
      rcases ol with ⟨h1, h2⟩ | ⟨L, d, ks, h1, h2, h3⟩
      · exact .inl ⟨h1, h2⟩
      · exact .inr ⟨L, d, ks, h1, h2, h3.same (new_same nr)⟩
end
end V9
/-! A drawn lock, as entries. -/
namespace V9
open PySem PySem.Spec PyProof.Rows L2 TL
theorem nms_name : ∀ x ∈ NMS, isName x = true := by decide +kernel
theorem fts_name : ∀ x ∈ FTS, isName x = true := by decide +kernel
structure Dn (e : E3) : Prop where
  n : e.1 ∈ NMS
  v : Vs e.2.1
  f : ∀ x ∈ e.2.2, x ∈ FTS
  k : e.2.2.length ≤ 4
  a : TX.Asc e.2.2
theorem Dn.ve {e : E3} (h : Dn e) : VE e := ⟨nms_name _ h.n, h.v, fun x hx => fts_name x (h.f x hx), h.a⟩
theorem Dn.vb {e : E3} (h : Dn e) : VB e := h.ve.vb (by have := h.k; omega)
theorem drawn_ens {b : Addr} {H : Hp} {nm : List PySem.Str} (hn : ∀ x ∈ nm, x ∈ NMS) : ∀ ks : List (PySem.Str × V), (∀ p ∈ ks, p.1 ∈ nm ∧ Ent b H p.2) → ∃ L : List E3, Ens H ks L ∧ ∀ e ∈ L, Dn e
  | [], _ => ⟨[], .nil, fun e he => by cases he⟩
  | p :: ks, h => by
    obtain ⟨L, h1, h2⟩ := drawn_ens hn ks fun q hq => h q (List.mem_cons_of_mem _ hq)
    obtain ⟨k1, e, q1, q2, ns, fs, t, _⟩ := h p List.mem_cons_self
    obtain ⟨x, v⟩ := p
    refine ⟨(x, ns, fs) :: L, .cons (e := (x, ns, fs)) ⟨e, q1, q2, t.v, t.he, t.hp, t.hq⟩ h1, fun y hy => ?_⟩
    rcases List.mem_cons.mp hy with z | z
    · rw [z]
      exact ⟨hn x k1, t.vs, t.ok, t.few, t.as⟩
    · exact h2 y z
theorem Lk.dw {b d : Addr} {H : Hp} {nm : List PySem.Str} {ks : List (PySem.Str × V)} (h : Lk b H d nm ks) (hn : ∀ x ∈ nm, x ∈ NMS) : ∃ L : List E3, DW H d ks L ∧ ∀ e ∈ L, Dn e := by
  obtain ⟨L, h1, h2⟩ := drawn_ens hn ks h.all
  exact ⟨L, ⟨h.at_, by rw [← h1.keys]; exact h.nd, h1⟩, h2⟩
theorem Dn.ln {e : E3} (h : Dn e) : Ln 9 300 (lineE e) := by
  have hw := cl_words h.ve
  have hl : (wordsE e).length ≤ 9 := by
    have := h.k
    unfold wordsE
    split <;> simp only [List.length_cons, List.length_nil] <;> omega
  have hm : ∀ w ∈ wordsE e, w.length ≤ 30 := by
    intro w hw
    unfold wordsE at hw
    rcases List.mem_cons.mp hw with e1 | hw
    · rw [e1]; decide +kernel
    rcases List.mem_cons.mp hw with e1 | hw
    · rw [e1]; have := (name_sign h.ve.n).2.2; omega
    rcases List.mem_cons.mp hw with e1 | hw
    · rw [e1]; exact said_len h.v
    split at hw
    · cases hw
    · rcases List.mem_cons.mp hw with e1 | hw
      · rw [e1]; decide +kernel
      rcases List.mem_cons.mp hw with e1 | hw
      · rw [e1]; decide +kernel
      · have := (name_sign (h.ve.f w hw)).2.2; omega
  have ho : ∀ w ∈ wordsE e, ∀ c ∈ tl w, c < 0x110000 := by
    have nzc : ∀ c ∈ Nz.cps.toList, c < 0x110000 := by decide +kernel
    intro w hw c hc
    unfold wordsE at hw
    rcases List.mem_cons.mp hw with e1 | hw
    · rw [e1] at hc; revert c; decide +kernel
    rcases List.mem_cons.mp hw with e1 | hw
    · rw [e1] at hc; exact nzc c ((name_sign h.ve.n).1 c hc)
    rcases List.mem_cons.mp hw with e1 | hw
    · rw [e1] at hc
      rcases mem_join hc with h1 | ⟨p, m, h1⟩
      · rw [tl_dot] at h1; simp at h1; omega
      · obtain ⟨n, hn, rfl⟩ := List.mem_map.mp m
        obtain ⟨k, rfl⟩ : ∃ k : Nat, n = (k : Int) := ⟨n.toNat, by have := (h.v.2 n hn).1; omega⟩
        have e : tl (num (k : Int)) = numL k := tl_num k
        rw [e] at h1
        have := numL_digits k c h1
        omega
    split at hw
    · cases hw
    · rcases List.mem_cons.mp hw with e1 | hw
      · rw [e1] at hc; revert c; decide +kernel
      rcases List.mem_cons.mp hw with e1 | hw
      · rw [e1] at hc; revert c; decide +kernel
      · exact nzc c ((name_sign (h.ve.f w hw)).1 c hc)
  have z : ∀ ps : List PySem.Str, (∀ p ∈ ps, Cl p) → (ps.map fun p => (tl p).count 32).sum ≤ 0 := by
    intro ps
    induction ps with
    | nil => intro _; exact Nat.le_refl _
    | cons p ps ih =>
      intro h
      rw [List.map_cons, List.sum_cons]
      have c0 : (tl p).count 32 = 0 := List.count_eq_zero.mpr fun m => (h p List.mem_cons_self 32 m).1 rfl
      have := ih fun q hq => h q (List.mem_cons_of_mem _ hq)
      omega
  have s := sum_le hm
  have s2 : (wordsE e).length * 30 ≤ 9 * 30 := Nat.mul_le_mul_right _ hl
  exact (ln_join (m := 0) (u := 270) hl (z _ hw) (by omega) fun p hp => ⟨fun m => (hw p hp 10 m).2 rfl, ho p hp⟩).up (by omega) (by omega)
theorem drawn_tb {S : List E3} (h : ∀ e ∈ S, Dn e) (k : S.length ≤ 7) : Tb 7 9 300 (showE S) := by
  by_cases n : S = []
  · subst n
    refine ⟨[""], by simp, by rw [show_nil, join_one], by decide, fun l hl => ?_⟩
    rw [List.mem_singleton.mp hl]
    have e : tl "" = [] := by decide +kernel
    exact ⟨by rw [e]; exact Nat.zero_le _, by show 0 ≤ _; omega, by rw [e]; simp, fun c hc => by rw [e] at hc; cases hc⟩
  · refine ⟨S.map lineE, by simpa using n, rfl, by rw [List.length_map]; exact k, fun l hl => ?_⟩
    obtain ⟨e, he, rfl⟩ := List.mem_map.mp hl
    exact (h e he).ln
theorem drawn_lock {S : List E3} (h : ∀ e ∈ S, Dn e) (a : TX.Asc (S.map (·.1))) : lockT (showE S) = some S := lock_some ⟨fun e he => (h e he).ve, a⟩ rfl
end V9
/-! Two dicts with the same entries are equal. -/
namespace V9
open PySem PySem.Spec PyProof.Rows L2 TL
section
variable {K : PySem.W.Frag} {H : Hp}
theorem eq_ints : ∀ xs : List Int, Paired (EqW K H 1) (xs.map V.int) (xs.map V.int)
  | [] => .nil
  | x :: xs => .cons (EqW.flat rfl) (eq_ints xs)
theorem eq_strs : ∀ xs : List PySem.Str, Paired (EqW K H 1) (xs.map V.str) (xs.map V.str)
  | [] => .nil
  | x :: xs => .cons (EqW.flat rfl) (eq_strs xs)
theorem ew_eq {u v : V} {d : List Int × List PySem.Str} (h1 : EW H u d) (h2 : EW H v d) : EqW K H 3 u v := by
  obtain ⟨a, p, q, rfl, ha, hp, hq⟩ := h1
  obtain ⟨b, r, s, rfl, hb, hr, hs⟩ := h2
  exact .inr (.inr (.inr ⟨a, b, _, _, rfl, rfl, .inl (.inl ha), .inl (.inl hb), .cons (.inr (.inr (.inr ⟨p, r, _, _, rfl, rfl, .inl (.inl hp), .inl (.inl hr), eq_ints _⟩))) (.cons (.inr (.inr (.inr ⟨q, s, _, _, rfl, rfl, .inl (.inl hq), .inl (.inl hs), eq_strs _⟩))) .nil)⟩))
theorem Ens.back {H : Hp} {ks : List (PySem.Str × V)} {L : List E3} (h : Ens H ks L) : ∀ p ∈ ks, ∃ e ∈ L, e.1 = p.1 ∧ EW H p.2 e.2 := by
  induction h with
  | nil => intro p hp; cases hp
  | cons a b ih =>
    intro p hp
    rcases List.mem_cons.mp hp with z | z
    · rw [z]; exact ⟨_, List.mem_cons_self, rfl, a⟩
    · obtain ⟨e, h1, h2⟩ := ih p z
      exact ⟨e, List.mem_cons_of_mem _ h1, h2⟩
theorem Ens.len {H : Hp} {ks : List (PySem.Str × V)} {L : List E3} (h : Ens H ks L) : ks.length = L.length := by
  have := congrArg List.length h.keys
  rwa [List.length_map, List.length_map] at this
/-- two dicts with the same entries, in any order -/
theorem dw_eq {d1 d2 : Addr} {k1 k2 : List (PySem.Str × V)} {L1 L2 : List E3} (h1 : DW H d1 k1 L1) (h2 : DW H d2 k2 L2) (p : L1.Perm L2) : EqR K H (EqW K H 3) (.ref d1) (.ref d2) := by
  refine .inr ⟨d1, d2, _, _, rfl, rfl, h1.at_, h2.at_, by rw [kk_len, kk_len, h1.en.len, h2.en.len, p.length_eq], fun q hq => ?_⟩
  unfold kk at hq
  obtain ⟨r, hr, rfl⟩ := List.mem_map.mp hq
  obtain ⟨e, he, e1, ev⟩ := h1.en.back r hr
  obtain ⟨v, hv, ew⟩ := h2.get (p.mem_iff.mp he)
  rw [e1] at hv
  exact ⟨v, hv, ew_eq ev ew⟩
end
end V9
/-! What the law holds side by side. -/
namespace V9
open PySem PySem.Spec PyProof.Rows L2 TL
def itx (n : Int) : PySem.Str := (toString n : String)
def Sg (x : PySem.Str) : Prop := x.length ≤ 100 ∧ ∀ k ∈ x.cps.toList, k < 16 ^ 8
theorem sg_name {x : PySem.Str} (h : isName x = true) : Sg x := by
  obtain ⟨h1, h2, h3⟩ := name_sign h
  have nz : ∀ c ∈ Nz.cps.toList, c < 16 ^ 8 := by decide +kernel
  exact ⟨by omega, fun k hk => nz k (h1 k hk)⟩
section
variable {H : Hp}
theorem shw_intsT : ∀ ns : List Int, (∀ n ∈ ns, 0 ≤ n ∧ n < 1000000) → Shw H (ns.map V.int) 0 [] (ns.map itx) (70 * ns.length)
  | [], _ => .nil
  | n :: ns, h => by
    have r := shw_intsT ns fun m hm => h m (List.mem_cons_of_mem _ hm)
    have hn := h n List.mem_cons_self
    have e : 70 * (n :: ns).length = 70 + 70 * ns.length := by rw [List.length_cons]; omega
    rw [e]
    exact .int n (by omega) r
theorem shw_strsT : ∀ fs : List PySem.Str, (∀ x ∈ fs, Sg x) → Shw H (fs.map V.str) 0 [] (fs.map reprText) (1010 * fs.length)
  | [], _ => .nil
  | x :: fs, h => by
    have r := shw_strsT fs fun m hm => h m (List.mem_cons_of_mem _ hm)
    obtain ⟨h1, h2⟩ := h x List.mem_cons_self
    have e : 1010 * (x :: fs).length = 1010 + 1010 * fs.length := by rw [List.length_cons]; omega
    rw [e]
    exact .str x h1 h2 r
def shE (d : List Int × List PySem.Str) : PySem.Str := tupleText [tupleText (d.1.map itx), tupleText (d.2.map reprText)]
theorem ew_shw {v : V} {d : List Int × List PySem.Str} (h : EW H v d) (hv : Vs d.1) (hf : ∀ x ∈ d.2, Sg x) (k : d.2.length ≤ 60) : ∃ as c, Shw H [v] 2 as [shE d] c ∧ c ≤ 62000 ∧ ∀ a ∈ as, Low2 H a := by
  obtain ⟨e, p, q, rfl, he, hp, hq⟩ := h
  obtain ⟨ns, fs⟩ := d
  dsimp only at hv hf k hp hq
  have r1 := shw_intsT (H := H) ns hv.2
  have r2 := shw_strsT (H := H) fs hf
  have l1 := hv.1
  have pe : e ≠ p := fun z => by
    have y := he
    rw [z, hp] at y
    have y2 := congrArg List.length (HO.tup.inj (Option.some.inj y))
    rw [List.length_map, l1] at y2
    simp at y2
  have qe : e ≠ q := fun z => by
    have y := he
    rw [z, hq] at y
    have y2 := HO.tup.inj (Option.some.inj y)
    cases fs with
    | nil => simp at y2
    | cons x fs => simp at y2
  have S : Shw H [.ref p, .ref q] 1 _ _ _ := Shw.tup (d := 0) hp r1 (by simp) (Shw.tup (d := 0) hq r2 (by simp) .nil)
  refine ⟨_, _, Shw.tup (d := 1) he S (by simp [pe, qe]) .nil, by omega, fun a ha => ?_⟩
  simp at ha
  rcases ha with rfl | rfl | rfl
  · exact ⟨_, he, fun n rest v _ _ z => by simp at z⟩
  · exact ⟨_, hp, fun n rest v _ _ z => by
      cases ns with
      | nil => simp at z
      | cons y ns => simp at z⟩
  · refine ⟨_, hq, fun n rest v hv hu z => ?_⟩
    cases fs with
    | nil => simp at z
    | cons y fs =>
      rw [List.map_cons] at z
      injection z with _ z2
      rw [← z2] at hv
      obtain ⟨y2, _, rfl⟩ := List.mem_map.mp hv
      rcases hu with k | ⟨_, k⟩ <;> cases k
theorem ens_shw {ks : List (PySem.Str × V)} {L : List E3} (h : Ens H ks L) : (∀ e ∈ L, VE e ∧ e.2.2.length ≤ 60) → ∃ as c, Shw H (ks.map (·.2)) 2 as (L.map fun e => shE e.2) c ∧ c ≤ 62000 * L.length ∧ ∀ a ∈ as, Low2 H a := by
  induction h with
  | nil => exact fun _ => ⟨[], 0, .nil, Nat.zero_le _, fun a ha => by cases ha⟩
  | @cons v e ks L a b ih =>
    intro hL
    obtain ⟨h1, h2⟩ := hL e List.mem_cons_self
    obtain ⟨as, c, s1, c1, l1⟩ := ew_shw a h1.v (fun x hx => sg_name (h1.f x hx)) h2
    obtain ⟨bs, c2, s2, c3, l2⟩ := ih fun x hx => hL x (List.mem_cons_of_mem _ hx)
    exact ⟨as ++ bs, c + c2, Shw.cons1 s1 s2, by rw [List.length_cons]; omega, fun a ha => (List.mem_append.mp ha).elim (l1 a) (l2 a)⟩
def shD (L : List E3) : PySem.Str := dictText (L.map fun e => reprText e.1 ++ ": " ++ shE e.2)
theorem zip_D {ks : List (PySem.Str × V)} {L : List E3} (h : Ens H ks L) : List.zipWith (fun p u => reprText p.1 ++ ": " ++ u) ks (L.map fun e => shE e.2) = L.map fun e => reprText e.1 ++ ": " ++ shE e.2 := by
  induction h with
  | nil => rfl
  | cons a b ih => rw [List.map_cons, List.zipWith_cons_cons, ih, List.map_cons]
theorem dw_shw {d : Addr} {ks : List (PySem.Str × V)} {L : List E3} (h : DW H d ks L) (hL : ∀ e ∈ L, VE e ∧ e.2.2.length ≤ 60) (n : L.length ≤ 40) : ∃ as c, Shw H [.ref d] 3 as [shD L] c ∧ c ≤ 2600000 ∧ ∀ a ∈ as, Low2 H a ∨ a = d := by
  obtain ⟨as, c, s, c1, l⟩ := ens_shw h.en hL
  have z : d ∉ as := fun m => by
    obtain ⟨xs, e, _⟩ := l d m
    rw [h.at_] at e; cases e
  have lk : ks.length = L.length := h.en.len
  have hk : ∀ p ∈ ks, Sg p.1 := fun p hp => by
    obtain ⟨e, he, e1, _⟩ := h.en.back p hp
    rw [← e1]; exact sg_name (hL e he).1.n
  have y := Shw.dic (d := 2) (as := []) (ts := []) (c := 0) ks h.at_ hk s z .nil
  rw [zip_D h.en, List.append_nil] at y
  exact ⟨_, _, y, by omega, fun a ha => (List.mem_cons.mp ha).elim .inr fun m => .inl (l a m)⟩
end
section
variable {K : PySem.W.Frag} {H : Hp}
/-- two values that are alike -/
def AL (K : PySem.W.Frag) (H : Hp) (x y : V) : Prop := ∃ (m n : Nat) (as bs : List Addr) (t : PySem.Str) (c e : Nat), m ≤ 60 ∧ (EqR K H (EqW K H m) x y ∨ EqT K H (EqW K H m) x y) ∧
  Shw H [x] n as [t] c ∧ Shw H [y] n bs [t] e ∧ n ≤ 60 ∧ c ≤ 16000000 ∧ e ≤ 16000000
theorem AL.sp {x y : V} (h : AL K H x y) {Q : VK} {E : XK} (q : Q (.bl true) H) : spAlike K [x, y] H Q E := by
  obtain ⟨m, n, as, bs, t, c, e, h1, h2, h3, h4, h5, h6, h7⟩ := h
  exact ⟨x, y, m, n, as, bs, t, c, e, rfl, h1, h2, h3, h4, h5, h6, h7, q⟩
theorem dw_AL {d1 d2 : Addr} {k1 k2 : List (PySem.Str × V)} {L : List E3} (h1 : DW H d1 k1 L) (h2 : DW H d2 k2 L) (hL : ∀ e ∈ L, VE e ∧ e.2.2.length ≤ 60) (n : L.length ≤ 40) : AL K H (.ref d1) (.ref d2) := by
  obtain ⟨as, c, s1, c1, _⟩ := dw_shw h1 hL n
  obtain ⟨bs, e, s2, c2, _⟩ := dw_shw h2 hL n
  exact ⟨3, 3, _, _, _, _, _, by decide, .inl (dw_eq h1 h2 (List.Perm.refl _)), s1, s2, by decide, by omega, by omega⟩
/-- a lock that a text shows that is read -/
theorem tt_bounds {x : PySem.Str} {L : List E3} (tt : Tt x) (h : lockT x = some L) : (∀ e ∈ L, VE e ∧ e.2.2.length ≤ 60) ∧ L.length ≤ 40 := by
  obtain ⟨V, e⟩ := lock_VL h
  have hl := tt.l
  have hw := tt.w
  rw [← e, lines_show V] at hl hw
  refine ⟨fun y hy => ⟨V.e y hy, ?_⟩, by rw [List.length_map] at hl; exact hl⟩
  have := hw (lineE y) (List.mem_map_of_mem hy)
  rw [split_line (V.e y hy)] at this
  exact Pln.few (pe_words (V.e y hy)).1 this
theorem told_AL {x : PySem.Str} {r1 r2 : Addr} {v1 v2 : V} (tt : Tt x) (o1 : OL H v1 x) (o2 : OL H v2 x) (h1 : H r1 = some (.tup [.str "told", v1])) (h2 : H r2 = some (.tup [.str "told", v2])) : AL K H (.ref r1) (.ref r2) := by
  have l1 : ("told" : PySem.Str).length ≤ 100 := by decide +kernel
  have l2 : ∀ k ∈ ("told" : PySem.Str).cps.toList, k < 16 ^ 8 := by decide +kernel
  rcases o1 with ⟨n1, rfl⟩ | ⟨L, d1, k1, t1, rfl, D1⟩
  · rcases o2 with ⟨n2, rfl⟩ | ⟨L', d2, k2, t2, rfl, D2⟩
    · have S := Shw.str (H := H) (d := 0) "told" l1 l2 (.non .nil)
      exact ⟨1, 1, _, _, _, _, _, by decide, .inr ⟨r1, r2, _, _, rfl, rfl, .inl (.inl h1), .inl (.inl h2), .cons (EqW.flat rfl) (.cons (EqW.flat rfl) .nil)⟩, .tup h1 S (by simp) .nil, .tup h2 S (by simp) .nil, by decide, by decide, by decide⟩
    · rw [n1] at t2; cases t2
  · rcases o2 with ⟨n2, rfl⟩ | ⟨L', d2, k2, t2, rfl, D2⟩
    · rw [n2] at t1; cases t1
    · have eL : L = L' := Option.some.inj (t1.symm.trans t2)
      subst eL
      obtain ⟨b1, b2⟩ := tt_bounds tt t1
      obtain ⟨as, c, s1, c1, w1⟩ := dw_shw D1 b1 b2
      obtain ⟨bs, e, s2, c2, w2⟩ := dw_shw D2 b1 b2
      have z1 : r1 ∉ as := fun m => (w1 r1 m).elim (fun l => l.ne h1 (v := .ref d1) List.mem_cons_self (.inr ⟨_, rfl⟩) rfl) (fun e => by rw [e, D1.at_] at h1; cases h1)
      have z2 : r2 ∉ bs := fun m => (w2 r2 m).elim (fun l => l.ne h2 (v := .ref d2) List.mem_cons_self (.inr ⟨_, rfl⟩) rfl) (fun e => by rw [e, D2.at_] at h2; cases h2)
      exact ⟨4, 4, _, _, _, _, _, by decide, .inr ⟨r1, r2, _, _, rfl, rfl, .inl (.inl h1), .inl (.inl h2), .cons (EqW.flat rfl) (.cons (.inr (.inr (.inl (dw_eq D1 D2 (List.Perm.refl _))))) .nil)⟩,
        .tup h1 (.str "told" l1 l2 s1) z1 .nil, .tup h2 (.str "told" l1 l2 s2) z2 .nil, by decide, by omega, by omega⟩
theorem wrong_AL {r1 r2 : Addr} (h1 : H r1 = some (.tup [.str "wrong", .int 0])) (h2 : H r2 = some (.tup [.str "wrong", .int 0])) : AL K H (.ref r1) (.ref r2) := by
  have S := Shw.str (H := H) (d := 0) "wrong" (by decide +kernel) (by decide +kernel) (.int 0 (by decide +kernel) .nil)
  exact ⟨1, 1, _, _, _, _, _, by decide, .inr ⟨r1, r2, _, _, rfl, rfl, .inl (.inl h1), .inl (.inl h2), .cons (EqW.flat rfl) (.cons (EqW.flat rfl) .nil)⟩, .tup h1 S (by simp) .nil, .tup h2 S (by simp) .nil, by decide, by decide, by decide⟩
theorem texts_AL {x : PySem.Str} {r1 r2 : Addr} (hx : x.length ≤ 5000) (hc : ∀ k ∈ x.cps.toList, k < 16 ^ 8) (h1 : H r1 = some (.lst [.str x, .str x])) (h2 : H r2 = some (.lst [.str x, .str x])) : AL K H (.ref r1) (.ref r2) := by
  have S := Shw.strL (H := H) (d := 0) x hx hc (.strL x hx hc .nil)
  exact ⟨1, 1, _, _, _, _, _, by decide, .inl (.inl ⟨r1, r2, _, _, rfl, rfl, .inl (.inl h1), .inl (.inl h2), .cons (EqW.flat rfl) (.cons (EqW.flat rfl) .nil)⟩), .lst h1 S (by simp) .nil, .lst h2 S (by simp) .nil, by decide, by decide, by decide⟩
end
end V9
/-! Values of any kind. -/
namespace V9
open PySem PySem.Spec PyProof.Rows L2 TL
theorem all_cons {α : Type} {F : α → Prop} {x : α} {xs : List α} (h : F x) (t : ∀ v ∈ xs, F v) : ∀ v ∈ x :: xs, F v := fun v hv => by
  rcases List.mem_cons.mp hv with e | e
  · exact e ▸ h
  · exact t v e
/-- a value of any kind, apart from b -/
inductive Od (K : PySem.W.Frag) (b : Addr) (H : Hp) : V → Prop
  | non : Od K b H .non
  | bl (c : Bool) : Od K b H (.bl c)
  | int (i : Int) : Od K b H (.int i)
  | str (x : PySem.Str) (h : Tt x) : Od K b H (.str x)
  | lst {a : Addr} {xs : List V} (n : a ≠ b) (h : H a = some (.lst xs)) : Od K b H (.ref a)
  | dic {a : Addr} {kvs : List (Key × V)} (n : a ≠ b) (h : H a = some (.dK kvs)) : Od K b H (.ref a)
  | tup {a : Addr} {xs : List V} (n : a ≠ b) (h : H a = some (.tup xs)) : Od K b H (.ref a)
  | exc {a C : Addr} (n : a ≠ b) (h : H a = some (ExO (.ref C) a)) (T : ErC K C) (k : PySem.W.kitOne K (.ref C) (.type "str") = some false) : Od K b H (.ref a)
theorem Od.chg {K : PySem.W.Frag} {b : Addr} {H H' : Hp} {v : V} (l : Od K b H v) (k : Chb b H H') : Od K b H' v := by
  cases l with
  | non => exact .non
  | bl c => exact .bl c
  | int i => exact .int i
  | str x h => exact .str x h
  | lst n h => exact .lst n (k _ _ n h)
  | dic n h => exact .dic n (k _ _ n h)
  | tup n h => exact .tup n (k _ _ n h)
  | exc n h T z => exact .exc n (k _ _ n h) T z
theorem Od.is {K : PySem.W.Frag} {b : Addr} {H : Hp} {v : V} (l : Od K b H v) : IsS K H v false ∨ ∃ x, v = .str x ∧ Tt x := by
  have k := kits K
  cases l with
  | non => exact .inl (.inl ⟨_, .base .non, (k "NoneType" (by decide)).2.2.1⟩)
  | bl c => exact .inl (.inl ⟨_, .base (.bl c), (k "bool" (by decide)).2.2.1⟩)
  | int i => exact .inl (.inl ⟨_, .base (.int i), (k "int" (by decide)).2.2.1⟩)
  | str x h => exact .inr ⟨x, rfl, h⟩
  | lst n h => exact .inl (.inl ⟨_, .base (.lst h), (k "list" (by decide)).2.2.1⟩)
  | dic n h => exact .inl (.inl ⟨_, .base (.dK h), (k "dict" (by decide)).2.2.1⟩)
  | tup n h => exact .inl (.inl ⟨_, .base (.tup h), (k "tuple" (by decide)).2.2.1⟩)
  | exc n h T z => exact .inl (.inr ⟨rfl, _, _, rfl, h, T, z⟩)
theorem tb_small {x : PySem.Str} (h : lnB x = true) : Tt x :=
  Tb.tt (n := 1) (w := uu 3) (m := mm 3 0) ⟨[x], by simp, (join_one _ _).symm, by simp, fun l hl => by rw [List.mem_singleton.mp hl]; exact lnB_ok h (Nat.le_refl _)⟩ (by decide) (by decide) (by decide)
theorem tt_small {x : PySem.Str} (h : lnB x = true) : Tt x := tb_small h
/-- what stands there, all of any kind -/
structure Stt (K : PySem.W.Frag) (b : Addr) (H0 H : Hp) (xs : List V) : Prop where
  c : Chb b H0 H
  B : Bag H b
  o : ∀ v ∈ xs, Od K b H v
section
variable {K : PySem.W.Frag} {b p : Addr} {H0 H : Hp} {xs : List V}
theorem Stt.ne (S : Stt K b H0 H xs) (n : H p = none) : p ≠ b := by
  obtain ⟨o, h⟩ := S.B.lst
  exact (ne_new h n).symm
theorem Stt.new (S : Stt K b H0 H xs) (n : H p = none) {o : HO} (h : Od K b (upd H p o) (.ref p)) : Stt K b H0 (upd H p o) (.ref p :: xs) :=
  ⟨S.c.trans (Chb.new n), S.B.same (new_same n), all_cons h fun v hv => (S.o v hv).chg (Chb.new n)⟩
theorem Stt.tup (S : Stt K b H0 H xs) (n : H p = none) (ys : List V) : Stt K b H0 (upd H p (.tup ys)) (.ref p :: xs) := S.new n (.tup (S.ne n) upd_same)
theorem Stt.lst (S : Stt K b H0 H xs) (n : H p = none) (ys : List V) : Stt K b H0 (upd H p (.lst ys)) (.ref p :: xs) := S.new n (.lst (S.ne n) upd_same)
theorem Stt.dic (S : Stt K b H0 H xs) (n : H p = none) (ys : List (Key × V)) : Stt K b H0 (upd H p (.dK ys)) (.ref p :: xs) := S.new n (.dic (S.ne n) upd_same)
end
abbrev sOdd : Stmt := topS 34
theorem scOdd : FnScope ["bag", "menu"] ["bag"] (defScope sOdd) := ⟨rfl, rfl, rfl, by decide +kernel, rfl, by decide +kernel, by decide +kernel⟩
section
variable {P : Program} {w : World} {K : PySem.W.Frag} {mg : PySem.Str → Option Value} {base : Heap}
def spOdd (K : PySem.W.Frag) : Sp := fun vs H Q _ => ∃ b : Addr, vs = [.ref b] ∧ Bag H b ∧ ∀ H' v, Chb b H H' → Bag H' b → Od K b H' v → Q v H'
theorem ok_odd {f fO fT : Addr} {fd fdO fdT : FuncData} {k : Nat} (F : Fun K "_law_odd" "_law_odd" sOdd f fd) (FO : Fun K "_law_one" "_law_one" sOne fO fdO) (bO : Binds K fdO ["bag", "things"] []) (gO : mg "_law_one" = some (.ref fO))
    (FT : Fun K "_law_take" "_law_take" sTake fT fdT) (bT : Binds K fdT ["bag", "many"] []) (gT : mg "_law_take" = some (.ref fT)) (mI : mg "int" = none) (mL : mg "len" = none) : FnOk P w K mg base CX0 (k + 3) f fd ["bag"] (spOdd K) := by
  have GO : FnOk P w K mg base CX0 (k + 2) fO fdO ["bag", "things"] spOne := ok_one FO FT bT gT mI mL
  refine F.ok scOdd (fun vs H Q E h => ?_) (fun cdv A outer s H vs Q E hr h => ?_)
  · obtain ⟨b, rfl, _⟩ := h
    rfl
  · obtain ⟨b, rfl, hB, q⟩ := h
    refine ⟨_, pss_cons (ps_set (i := 1) scOdd.nd rfl (.inl rfl) (pe_lst (pa_cons pe_non (pa_cons pe_bl (pa_cons pe_bl (pa_cons pe_int (pa_cons pe_int (pa_cons (pe_un un_neg pe_int) (pa_cons (pe_op op_pow pe_int pe_int) (pa_cons pe_str (pa_cons pe_str (pa_cons pe_str (pa_cons pe_str (pa_cons (pe_tup pa_nil) (pa_cons (pe_lst pa_nil) (pa_cons pe_dnewK (pa_cons (pe_tup (pa_cons pe_int (pa_cons pe_int (pa_cons pe_int pa_nil)))) (pa_cons (pe_tup (pa_cons (pe_tup (pa_cons pe_int (pa_cons pe_int (pa_cons pe_int pa_nil)))) (pa_cons pe_non pa_nil))) pa_nil))))))))))))))))))
      (pss_one (ps_ret (pe_call GO hr (by rfl) gO FO.kp bO .nil pass0 (pa_cons (pv 0) (pa_cons (pe_op op_cat (pv 1) (pe_lst (pa_cons (pe_tup (pa_cons (pe_tup (pa_cons (pe_tup (pa_cons pe_int (pa_cons pe_int (pa_cons pe_int pa_nil)))) (pa_cons pe_non pa_nil))) pa_nil)) (pa_cons (pe_tup (pa_cons pe_str (pa_cons (pe_tup pa_nil) (pa_cons (pe_tup pa_nil) (pa_cons pe_bl pa_nil))))) (pa_cons (pe_disp (pps_cons pe_str pe_int pps_nil) (by rfl) (by rfl) (fun z => by cases z) (by decide)) (pa_cons (pe_lst (pa_cons (pe_tup (pa_cons pe_str pa_nil)) pa_nil)) (pa_cons pe_str (pa_cons pe_str pa_nil)))))))) pa_nil))))), ?_⟩
    obtain ⟨H0, S0, q⟩ : ∃ H0 : Hp, Stt K b H0 H [] ∧ ∀ H' v, Chb b H0 H' → Bag H' b → Od K b H' v → Q v H' := ⟨H, ⟨Chb.refl, hB, fun v hv => by cases hv⟩, q⟩
    clear hB
    refine ⟨1, rfl, 10, 39, rfl, rfl, ⟨by decide, by decide, by decide⟩, ⟨(by show 0 ≤ sizeLine; decide), fun p1 n1 => ?_⟩⟩
    have S1 := S0.tup n1 []
    clear n1 S0
    generalize upd H p1 (.tup []) = H1 at *
    refine ⟨(by show 0 ≤ sizeLine; decide), fun p2 n2 => ?_⟩
    have S2 := S1.lst n2 []
    clear n2 S1
    generalize upd H1 p2 (.lst []) = H2 at *
    intro p3 n3
    have S3 := S2.dic n3 []
    clear n3 S2
    generalize upd H2 p3 (.dK []) = H3 at *
    refine ⟨(by show 3 ≤ sizeLine; decide), fun p4 n4 => ?_⟩
    have S4 := S3.tup n4 [.int 0, .int 0, .int 0]
    clear n4 S3
    generalize upd H3 p4 (.tup [.int 0, .int 0, .int 0]) = H4 at *
    refine ⟨(by show 3 ≤ sizeLine; decide), fun p5 n5 => ?_⟩
    have S5 := S4.tup n5 [.int 0, .int 0, .int 0]
    clear n5 S4
    generalize upd H4 p5 (.tup [.int 0, .int 0, .int 0]) = H5 at *
    refine ⟨(by show 2 ≤ sizeLine; decide), fun p6 n6 => ?_⟩
    have S6 := S5.tup n6 [.ref p5, .non]
    clear n6 S5
    generalize upd H5 p6 (.tup [.ref p5, .non]) = H6 at *
    refine ⟨(by show 16 ≤ sizeLine; decide), fun p7 n7 => ?_⟩
    have S7 := S6.lst n7 [.non, .bl true, .bl false, .int 0, .int 1, .int (-1), .int (10 ^ (39 : Int).toNat), .str "", .str "a", .str "A", .str "core", .ref p1, .ref p2, .ref p3, .ref p4, .ref p6]
    have m7 : (upd H6 p7 (.lst [.non, .bl true, .bl false, .int 0, .int 1, .int (-1), .int (10 ^ (39 : Int).toNat), .str "", .str "a", .str "A", .str "core", .ref p1, .ref p2, .ref p3, .ref p4, .ref p6])) p7 = some (.lst [.non, .bl true, .bl false, .int 0, .int 1, .int (-1), .int (10 ^ (39 : Int).toNat), .str "", .str "a", .str "A", .str "core", .ref p1, .ref p2, .ref p3, .ref p4, .ref p6]) := upd_same
    clear n7 S6
    generalize upd H6 p7 (.lst [.non, .bl true, .bl false, .int 0, .int 1, .int (-1), .int (10 ^ (39 : Int).toNat), .str "", .str "a", .str "A", .str "core", .ref p1, .ref p2, .ref p3, .ref p4, .ref p6]) = H7 at *
    refine ⟨.ref b, rfl, .ref p7, rfl, ⟨(by show 3 ≤ sizeLine; decide), fun p8 n8 => ?_⟩⟩
    have S8 := S7.tup n8 [.int 0, .int 0, .int 0]
    replace m7 := new_ne (u := .tup [.int 0, .int 0, .int 0]) m7 n8
    clear n8 S7
    generalize upd H7 p8 (.tup [.int 0, .int 0, .int 0]) = H8 at *
    refine ⟨(by show 2 ≤ sizeLine; decide), fun p9 n9 => ?_⟩
    have S9 := S8.tup n9 [.ref p8, .non]
    replace m7 := new_ne (u := .tup [.ref p8, .non]) m7 n9
    clear n9 S8
    generalize upd H8 p9 (.tup [.ref p8, .non]) = H9 at *
    refine ⟨(by show 1 ≤ sizeLine; decide), fun p10 n10 => ?_⟩
    have S10 := S9.tup n10 [.ref p9]
    replace m7 := new_ne (u := .tup [.ref p9]) m7 n10
    clear n10 S9
    generalize upd H9 p10 (.tup [.ref p9]) = H10 at *
    refine ⟨(by show 0 ≤ sizeLine; decide), fun p11 n11 => ?_⟩
    have S11 := S10.tup n11 []
    replace m7 := new_ne (u := .tup []) m7 n11
    clear n11 S10
    generalize upd H10 p11 (.tup []) = H11 at *
    refine ⟨(by show 0 ≤ sizeLine; decide), fun p12 n12 => ?_⟩
    have S12 := S11.tup n12 []
    replace m7 := new_ne (u := .tup []) m7 n12
    clear n12 S11
    generalize upd H11 p12 (.tup []) = H12 at *
    refine ⟨(by show 4 ≤ sizeLine; decide), fun p13 n13 => ?_⟩
    have S13 := S12.tup n13 [.str "a", .ref p11, .ref p12, .bl true]
    replace m7 := new_ne (u := .tup [.str "a", .ref p11, .ref p12, .bl true]) m7 n13
    clear n13 S12
    generalize upd H12 p13 (.tup [.str "a", .ref p11, .ref p12, .bl true]) = H13 at *
    intro p14 n14
    refine ⟨upd_same, [(Sum.inr "a", .int 1)], rfl, by decide, ?_⟩
    rw [upd_upd, show mergeK [] [((Sum.inr "a" : Key), V.int 1)] = [((Sum.inr "a" : Key), V.int 1)] from by first | rfl | simp [mergeK, putK]]
    have S14 := S13.dic n14 [(Sum.inr "a", .int 1)]
    replace m7 := new_ne (u := .dK [(Sum.inr "a", .int 1)]) m7 n14
    clear n14 S13
    generalize upd H13 p14 (.dK [(Sum.inr "a", .int 1)]) = H14 at *
    refine ⟨(by show 1 ≤ sizeLine; decide), fun p15 n15 => ?_⟩
    have S15 := S14.tup n15 [.str "a"]
    replace m7 := new_ne (u := .tup [.str "a"]) m7 n15
    clear n15 S14
    generalize upd H14 p15 (.tup [.str "a"]) = H15 at *
    refine ⟨(by show 1 ≤ sizeLine; decide), fun p16 n16 => ?_⟩
    have S16 := S15.lst n16 [.ref p15]
    replace m7 := new_ne (u := .lst [.ref p15]) m7 n16
    clear n16 S15
    generalize upd H15 p16 (.lst [.ref p15]) = H16 at *
    refine ⟨(by show 6 ≤ sizeLine; decide), fun p17 n17 => ?_⟩
    have S17 := S16.lst n17 [.ref p10, .ref p13, .ref p14, .ref p16, .str "1.2.3", .str "a/b"]
    replace m7 := new_ne (u := .lst [.ref p10, .ref p13, .ref p14, .ref p16, .str "1.2.3", .str "a/b"]) m7 n17
    have m17 : (upd H16 p17 (.lst [.ref p10, .ref p13, .ref p14, .ref p16, .str "1.2.3", .str "a/b"])) p17 = some (.lst [.ref p10, .ref p13, .ref p14, .ref p16, .str "1.2.3", .str "a/b"]) := upd_same
    clear n17 S16
    generalize upd H16 p17 (.lst [.ref p10, .ref p13, .ref p14, .ref p16, .str "1.2.3", .str "a/b"]) = H17 at *
    refine ⟨p7, p17, _, _, rfl, rfl, m7, m17, (by show 22 ≤ sizeLine; decide), fun p18 n18 => ?_⟩
    refine ⟨b, p18, _, rfl, S17.B.same (new_same n18), upd_same, S17.ne n18, (by simp), (by simp), fun H' x hC' hB' hx => ?_⟩
    have c2 : Chb b H17 H' := (Chb.new n18).trans hC'
    have all : ∀ x ∈ [(.non : V), (.bl true : V), (.bl false : V), (.int 0 : V), (.int 1 : V), (.int (-1) : V), (.int (10 ^ (39 : Int).toNat) : V), (.str "" : V), (.str "a" : V), (.str "A" : V), (.str "core" : V), (.ref p1 : V), (.ref p2 : V), (.ref p3 : V), (.ref p4 : V), (.ref p6 : V), (.ref p10 : V), (.ref p13 : V), (.ref p14 : V), (.ref p16 : V), (.str "1.2.3" : V), (.str "a/b" : V)], Od K b H17 x := all_cons .non (all_cons (.bl _) (all_cons (.bl _) (all_cons (.int _) (all_cons (.int _) (all_cons (.int _) (all_cons (.int _) (all_cons (.str _ (tt_small (by decide +kernel))) (all_cons (.str _ (tt_small (by decide +kernel))) (all_cons (.str _ (tt_small (by decide +kernel))) (all_cons (.str _ (tt_small (by decide +kernel))) (all_cons (S17.o _ (by simp)) (all_cons (S17.o _ (by simp)) (all_cons (S17.o _ (by simp)) (all_cons (S17.o _ (by simp)) (all_cons (S17.o _ (by simp)) (all_cons (S17.o _ (by simp)) (all_cons (S17.o _ (by simp)) (all_cons (S17.o _ (by simp)) (all_cons (S17.o _ (by simp)) (all_cons (.str _ (tt_small (by decide +kernel))) (all_cons (.str _ (tt_small (by decide +kernel))) (fun v hv => by cases hv))))))))))))))))))))))
    exact q H' x (S17.c.trans c2) hB' ((all x hx).chg c2)
end
end V9
/-! The law. -/
namespace V9
open PySem PySem.Spec PyProof.Rows L2 TL
theorem cut_take (xs : List V) (k : Nat) : cutV xs none (some ((k : Nat) : Int)) = xs.take k := by
  show (xs.drop 0).take (HT.sIx xs.length xs.length (some ((k : Nat) : Int)) - 0) = xs.take k
  rw [HT.sIx_nat, List.drop_zero, Nat.sub_zero]
  exact List.take_eq_take_iff.mpr (by omega)
theorem ens_perm {H : Hp} {ks ks' : List (PySem.Str × V)} (p : ks'.Perm ks) : ∀ L, Ens H ks L → ∃ L', Ens H ks' L' ∧ L'.Perm L := by
  induction p with
  | nil => intro L h; exact ⟨L, h, .refl _⟩
  | @cons x l1 l2 _ ih =>
    intro L h
    cases h with
    | cons a b =>
      obtain ⟨L', h1, h2⟩ := ih _ b
      exact ⟨_, .cons a h1, h2.cons _⟩
  | swap x y l =>
    intro L h
    cases h with
    | cons a b =>
      cases b with
      | cons c d => exact ⟨_, .cons c (.cons a d), .swap _ _ _⟩
  | trans _ _ ih1 ih2 =>
    intro L h
    obtain ⟨L1, g1, g2⟩ := ih2 L h
    obtain ⟨L2, g3, g4⟩ := ih1 L1 g1
    exact ⟨L2, g3, g4.trans g2⟩
theorem DW.chb {b d : Addr} {H H' : Hp} {ks : List (PySem.Str × V)} {L : List E3} (h : DW H d ks L) (n : d ≠ b) (B : Bag H b) (c : Chb b H H') : DW H' d ks L := ⟨c _ _ n h.at_, h.nd, h.en.kt (Chb.kt B c)⟩
theorem OL.same {H H' : Hp} {v : V} {x : PySem.Str} (h : OL H v x) (s : Same H H') : OL H' v x := by
  rcases h with ⟨h1, h2⟩ | ⟨L, d, ks, h1, h2, h3⟩
  · exact .inl ⟨h1, h2⟩
  · exact .inr ⟨L, d, ks, h1, h2, h3.same s⟩
theorem not_str {K : PySem.W.Frag} {H : Hp} {x : PySem.Str} (h : IsS K H (.str x) false) : False := by
  rcases h with ⟨t, ty, e⟩ | ⟨_, a, C, z, _⟩
  · cases ty with
    | base y =>
      cases y with
      | str _ =>
        have := (kits K "str" (by decide)).2.2.1
        rw [e] at this
        cases this
  · cases z
abbrev sLaw : Stmt := topS 46
abbrev NL : List PySem.Str := ["script", "bag", "turn", "lock", "kept", "text", "due", "again", "told", "k", "some", "odd"]
theorem scLaw : FnScope NL ["script"] (defScope sLaw) := ⟨rfl, rfl, rfl, by decide +kernel, rfl, by decide +kernel, by decide +kernel⟩
abbrev sg (a b : Addr) (x2 x3 x4 x5 x6 x7 x8 x9 x10 x11 : Option V) : L2.St := [some (.ref a), some (.ref b), x2, x3, x4, x5, x6, x7, x8, x9, x10, x11]
structure Lx (K : PySem.W.Frag) (mg : PySem.Str → Option Value) (fB fNm fA fAl fAs fHe fRd fLr fBl fBt fOd CP : Addr) (dB dNm dA dAl dAs dHe dRd dLr dBl dBt dOd : FuncData) : Prop where
  FB : Fun K "_law_bag" "_law_bag" sBag fB dB
  bB : Binds K dB ["script"] []
  gB : mg "_law_bag" = some (.ref fB)
  FNm : Fun K "_law_names" "_law_names" sNames fNm dNm
  bNm : Binds K dNm ["many"] []
  gNm : mg "_law_names" = some (.ref fNm)
  FA : Fun K "_law_any_lock" "_law_any_lock" sAny fA dA
  bA : Binds K dA ["bag", "names"] []
  gA : mg "_law_any_lock" = some (.ref fA)
  FAl : Fun K "_law_alike" "_law_alike" sAlike fAl dAl
  bAl : Binds K dAl ["found", "due"] []
  gAl : mg "_law_alike" = some (.ref fAl)
  FAs : Fun K "_law_ascending_dict" "_law_ascending_dict" sAsc fAs dAs
  bAs : Binds K dAs ["found"] []
  gAs : mg "_law_ascending_dict" = some (.ref fAs)
  FHe : Fun K "_law_heard" "_law_heard" sHeard fHe dHe
  bHe : Binds K dHe ["thing"] []
  gHe : mg "_law_heard" = some (.ref fHe)
  FRd : Fun K "read_lock" "read_lock" sRdL fRd dRd
  bRd : Binds K dRd ["text"] []
  gRd : mg "read_lock" = some (.ref fRd)
  FLr : Fun K "_law_lock_read" "_law_lock_read" sLRead fLr dLr
  bLr : Binds K dLr ["text"] []
  gLr : mg "_law_lock_read" = some (.ref fLr)
  FBl : Fun K "_law_bent_line" "_law_bent_line" sBLine fBl dBl
  bBl : Binds K dBl ["bag", "line"] []
  gBl : mg "_law_bent_line" = some (.ref fBl)
  FBt : Fun K "_law_bent_text" "_law_bent_text" sBText fBt dBt
  bBt : Binds K dBt ["bag", "text"] []
  gBt : mg "_law_bent_text" = some (.ref fBt)
  FOd : Fun K "_law_odd" "_law_odd" sOdd fOd dOd
  bOd : Binds K dOd ["bag"] []
  gOd : mg "_law_odd" = some (.ref fOd)
  mRepr : mg "repr" = none
  mAbs : mg "abs" = none
  gP : mg "PackError" = some (.ref CP)
  eP : PySem.W.excIn K CP [.type "ValueError", .type "Exception", .type "BaseException", .type "object"] "ValueError.__new__" = true
  kP : PySem.W.keepIn K (.ref CP) = true
  cP : ErC K CP
  iP : PySem.W.kitOne K (.ref CP) (.type "str") = some false
def spRdT : Sp := fun vs H Q _ => ∃ x : PySem.Str, vs = [.str x] ∧ Tt x ∧ ∀ H' v, Same H H' → OL H' v x → (∀ a, v = .ref a → H a = none) → Q v H'
def spLaw (K : PySem.W.Frag) : Sp := fun vs H Q _ => ∃ (a : Addr) (ns : List Int), vs = [.ref a] ∧ SqL K H a (ns.map V.int) ∧ ns.length ≤ 63 ∧ ∀ H', Q (.bl true) H'
section
variable {P : Program} {w : World} {K : PySem.W.Frag} {mg : PySem.Str → Option Value} {base : Heap}
theorem ok_law {f : Addr} {fd : FuncData} {fB fNm fA fAl fAs fHe fRd fLr fBl fBt fOd CP CW fI : Addr} {dB dNm dA dAl dAs dHe dRd dLr dBl dBt dOd dI : FuncData} {fT fO fM fV fE : Addr} {dT dO dM dV dE : FuncData}
    {fN fT' fS fL fAa fC fK fH fE' fF fV' : Addr} {dN dT' dS dL dAa dC dK dH dE' dF dV' : FuncData} {t1 t2 t3 t4 t5 : Tok} {gN gB gV gI gT gS : Addr} {eN eB eV eI eT eS : FuncData} (F : Fun K "law" "law" sLaw f fd)
    (D : Drw K mg fT fO fM fV fE dT dO dM dV dE) (N : Pn K mg fN fT' fS fL fAa fC dN dT' dS dL dAa dC t1 t2 t3 t4 t5) (S : Ps K mg fK fH fE' fF fV' dK dH dE' dF dV') (L : Pl K mg gN gB gV gI gT gS eN eB eV eI eT eS) (X : Ex K mg CW fI dI) (Y : Ey K mg CW CP)
    (T : Lx K mg fB fNm fA fAl fAs fHe fRd fLr fBl fBt fOd CP dB dNm dA dAl dAs dHe dRd dLr dBl dBt dOd) : Ok0 P w K mg base 9 f fd ["script"] (spLaw K) := by
  have GB : FnOk P w K mg base CX0 8 fB dB ["script"] (spBag K) := ok_bag T.FB T.mAbs
  have GN : FnOk P w K mg base CX0 8 fNm dNm ["many"] spNames := ok_names T.FNm
  have GO : FnOk P w K mg base CX0 8 fO dO ["bag", "things"] spOne := ok_one D.FO D.FT D.bT D.gT D.mI D.mL
  have GM : FnOk P w K mg base CX0 8 fM dM ["bag", "things"] spMixed := ok_mixed D.FM D.FT D.bT D.gT D.mI D.mL
  have GA : FnOk P w K mg base CX0 8 fA dA ["bag", "names"] spAny := ok_any T.FA D
  have GL : Ok0 P w K mg base 8 fAl dAl ["found", "due"] (spAlike K) := ok_alike T.FAl T.mRepr
  have GS : FnOk P w K mg base CX0 8 fAs dAs ["found"] spCopy := ok_asc T.FAs D.mS D.mD
  have GK : FnOk P w K mg base CX0 8 fK dK ["lock"] spShowL := ok_lockS S.FK S.FE S.bE S.gE S.FF S.bF S.gF S.FV S.bV S.gV N.mT S.mSo
  have GX : FnOk P w K mg base CX0 8 gT eT ["lock"] spShowL := ok_ltext L.FT L.FS L.bS L.gS L.mT L.mSo L.mLi
  have GR : FnOk P w K mg base CX0 8 fRd dRd ["text"] spRdT := fn_pure (ok_rdl (CW := CW) T.FRd N S X) fun vs H Q E h => .inr h
  have GH : FnOk P w K mg base CX0 8 fHe dHe ["thing"] (spHrd (K := K)) := ok_hrd T.FHe T.FRd T.bRd T.gRd N S X Y
  have GW : FnOk P w K mg base CX0 8 fBt dBt ["bag", "text"] spBText := ok_btext T.FBt T.FBl T.bBl T.gBl D.FT D.bT D.gT D.FO D.bO D.gO D.mI D.mL
  have GZ : FnOk P w K mg base CX0 8 fLr dLr ["text"] spLR := ok_lrd T.FLr L
  have GD : FnOk P w K mg base CX0 8 fOd dOd ["bag"] (spOdd K) := ok_odd T.FOd D.FO D.bO D.gO D.FT D.bT D.gT D.mI D.mL
  refine Ok0.mk_of F scLaw (fun vs H Q E h => ?_) (fun cdv A outer s H vs Q E hgd hr h => ?_)
  · obtain ⟨a, ns, rfl, _⟩ := h
    rfl
  · obtain ⟨a, ns, rfl, hS, hl, q⟩ := h
    have hu1 := Nat.lt_of_le_of_lt (Nat.add_le_add_left (show 1 ≤ 64 by decide) _) hr.units
    refine ⟨_, pss_cons (ps_set (i := 1) scLaw.nd rfl (.inl rfl) (pe_call GB hr (by rfl) T.gB T.FB.kp T.bB .nil pass0 (pa_cons (pv 0) pa_nil)))
      (pss_cons (ps_for PassesOwn.never rfl (pi_range1 (by rfl) D.mR (pa_cons pe_int pa_nil)) (pg_name (i := 2) scLaw.nd rfl (Or.inl rfl))
        (C8.pss_cut (ps_set (i := 3) scLaw.nd rfl (.inl rfl) (pe_call GA hr (by rfl) T.gA T.FA.kp T.bA .nil pass0 (pa_cons (pv 1) (pa_cons (pe_slice sl_list (pe_call GM hr (by rfl) D.gM D.FM.kp D.bM .nil pass0 (pa_cons (pv 1) (pa_cons (pe_callTy call_list_of (by rfl) D.mLi (by decide +kernel) (pa_cons (pe_call GN hr (by rfl) T.gNm T.FNm.kp T.bNm .nil pass0 (pa_cons pe_int pa_nil)) pa_nil)) pa_nil))) po_none (po_some (pe_call GO hr (by rfl) D.gO D.FO.kp D.bO .nil pass0 (pa_cons (pv 1) (pa_cons (pe_lst (pa_cons pe_int (pa_cons pe_int (pa_cons pe_int (pa_cons pe_int (pa_cons pe_int pa_nil)))))) pa_nil))))) pa_nil))))
        (C8.pss_cut (ps_par (i := 4) (j := 5) rfl scLaw.nd rfl rfl (by decide) rfl rfl (pa_cons (pe_callB (call_reprV hgd hr.units) (by rfl) T.mRepr (by decide +kernel) (pa_cons (pv 3) pa_nil)) (pa_cons (pe_call GX hr (by rfl) L.gT L.FT.kp L.bT .nil pass0 (pa_cons (pv 3) pa_nil)) pa_nil)) (by rfl))
        (C8.pss_cut (ps_set (i := 6) scLaw.nd rfl (.inl rfl) (pe_call GS hr (by rfl) T.gAs T.FAs.kp T.bAs .nil pass0 (pa_cons (pv 3) pa_nil)))
        (C8.pss_cut (ps_if (PW.pt (pw_or (pt_not (pt_val (pe_call00 GL hgd hr (by rfl) T.gAl T.FAl.kp T.bAl (pa_cons (pe_lst (pa_cons (pe_call GK hr (by rfl) S.gK S.FK.kp S.bK .nil pass0 (pa_cons (pv 3) pa_nil)) (pa_cons (pe_call GK hr (by rfl) S.gK S.FK.kp S.bK .nil pass0 (pa_cons (pv 6) pa_nil)) pa_nil))) (pa_cons (pe_lst (pa_cons (pv 5) (pa_cons (pv 5) pa_nil))) pa_nil)))))
          (pw_or1 (pt_cmpR op_ne (pe_callB (call_reprV hgd hr.units) (by rfl) T.mRepr (by decide +kernel) (pa_cons (pv 3) pa_nil)) (pv 4) (nomark _))))) (pss_one (ps_ret pe_bl)) pss_nil)
        (C8.pss_cut (ps_for PassesOwn.never rfl (pi_range1 (by rfl) D.mR (pa_cons pe_int pa_nil)) (pg_name (i := 7) scLaw.nd rfl (Or.inl rfl))
          (C8.pss_cut (ps_set (i := 8) scLaw.nd rfl (.inl rfl) (pe_call GR hr (by rfl) T.gRd T.FRd.kp T.bRd .nil pass0 (pa_cons (pv 5) pa_nil)))
          (C8.pss_cut (ps_if (pt_not (pt_val (pe_call00 GL hgd hr (by rfl) T.gAl T.FAl.kp T.bAl (pa_cons (pv 8) (pa_cons (pv 6) pa_nil))))) (pss_one (ps_ret pe_bl)) pss_nil)
          (pss_one (ps_dput hu1 (pv 8) pe_str pe_non (by rfl))))))
        (C8.pss_cut (ps_for PassesOwn.never rfl (pi_range1 (by rfl) D.mR (pa_cons pe_int pa_nil)) (pg_name (i := 9) scLaw.nd rfl (Or.inl rfl))
          (C8.pss_cut (ps_set (i := 10) scLaw.nd rfl (.inl rfl) (pe_call GW hr (by rfl) T.gBt T.FBt.kp T.bBt .nil pass0 (pa_cons (pv 1) (pa_cons (pv 5) pa_nil))))
          (C8.pss_cut (ps_set (i := 10) scLaw.nd rfl (.inl rfl) (pe_ifExp (pt_cmpR op_gt (pv 9) pe_int (nomark _)) (pe_call GW hr (by rfl) T.gBt T.FBt.kp T.bBt .nil pass0 (pa_cons (pv 1) (pa_cons (pv 10) pa_nil))) (pv 10)))
          (pss_one (ps_if (pt_not (pt_val (pe_call00 GL hgd hr (by rfl) T.gAl T.FAl.kp T.bAl (pa_cons (pe_call GH hr (by rfl) T.gHe T.FHe.kp T.bHe .nil pass0 (pa_cons (pv 10) pa_nil)) (pa_cons (pe_tup (pa_cons pe_str (pa_cons (pe_call GZ hr (by rfl) T.gLr T.FLr.kp T.bLr .nil pass0 (pa_cons (pv 10) pa_nil)) pa_nil))) pa_nil))))) (pss_one (ps_ret pe_bl)) pss_nil)))))
        (C8.pss_cut (ps_set (i := 11) scLaw.nd rfl (.inl rfl) (pe_call GO hr (by rfl) D.gO D.FO.kp D.bO .nil pass0 (pa_cons (pv 1) (pa_cons (pe_lst (pa_cons (pv 3) (pa_cons (pe_callTy (call_list_dK rfl) (by rfl) D.mLi (by decide +kernel) (pa_cons (pv 3) pa_nil)) (pa_cons (pe_tup (pa_cons (pv 5) pa_nil)) (pa_cons (pe_call GD hr (by rfl) T.gOd T.FOd.kp T.bOd .nil pass0 (pa_cons (pv 1) pa_nil)) (pa_cons (pe_exc0 PySem.F.excBase_ValueError T.eP T.gP T.kP (by rfl)) (pa_cons (pv 5) pa_nil))))))) pa_nil))))
        (pss_one (ps_if (pt_not (pt_val (pe_call00 GL hgd hr (by rfl) T.gAl T.FAl.kp T.bAl (pa_cons (pe_call GH hr (by rfl) T.gHe T.FHe.kp T.bHe .nil pass0 (pa_cons (pv 11) pa_nil)) (pa_cons (pe_ifExp (pt_val (pe_callB call_isS (by rfl) N.mS (by decide +kernel) (pa_cons (pv 11) (pa_cons (pe_bltn (v := .ty "str") (u := .type "str") (by rfl) N.mT (by decide +kernel) rfl) pa_nil)))) (pe_tup (pa_cons pe_str (pa_cons (pe_call GZ hr (by rfl) T.gLr T.FLr.kp T.bLr .nil pass0 (pa_cons (pv 11) pa_nil)) pa_nil))) (pe_tup (pa_cons pe_str (pa_cons pe_int pa_nil)))) pa_nil))))) (pss_one (ps_ret pe_bl)) pss_nil))))))))))
      (pss_one (ps_ret pe_bl))), ?_⟩
    refine ⟨_, rfl, a, ns, rfl, hS, hl, fun H0 b _ _ hB0 => ⟨3, rfl, by decide, by decide, for_range (n := 3) (fun _ σ' H' => (∃ x2 x3 x4 x5 x6 x7 x8 x9 x10 x11, σ' = sg a b x2 x3 x4 x5 x6 x7 x8 x9 x10 x11) ∧ Bag H' b) ⟨⟨_, _, _, _, _, _, _, _, _, _, rfl⟩, hB0⟩ (fun i σ' H1 hi hP => ?_) (fun σ' H' _ => q H')⟩⟩
    obtain ⟨⟨x2, x3, x4, x5, x6, x7, x8, x9, x10, x11, rfl⟩, B1⟩ := hP
    clear hB0 hS
    -- lock
    refine ⟨fun σ' H' => ∃ (y2 : Option V) (d : Addr) (nm : List PySem.Str) (ks : List (PySem.Str × V)), σ' = sg a b y2 (some (.ref d)) x4 x5 x6 x7 x8 x9 x10 x11 ∧ Bag H' b ∧ Lk b H' d nm ks ∧ Nm nm, ?_, ?_⟩
    · refine ⟨_, rfl, _, rfl, rfl, fun H3 p s3 hp => ⟨p, _, rfl, .inr (.inl (.inl hp)), fun l nl => ?_⟩⟩
      have B3 := B1.same s3
      obtain ⟨o3, hb3⟩ := B3.lst
      refine ⟨b, l, _, rfl, B3.same (new_same nl), upd_same, (ne_of_none hb3 nl).symm, by decide, fun H4 r ys c4 B4 nr hr pm rb => ?_⟩
      obtain ⟨zs, pz, rfl⟩ := perm_map_inv pm NMS rfl
      obtain ⟨o4, hb4⟩ := B4.lst
      refine ⟨_, rfl, by show 5 ≤ sizeLine; decide, fun t nt => ⟨b, t, _, rfl, B4.same (new_same nt), upd_same, (ne_of_none hb4 nt).symm, by simp, by show 5 ≤ 1000; decide, fun H5 x c5 B5 hx => ?_⟩⟩
      have hr5 := c5 _ _ rb (new_ne (u := .lst [.int 3, .int 0, .int 1, .int 6, .int 2]) hr nt)
      have hk : ∃ k : Nat, x = .int (k : Nat) ∧ k ≤ 7 := by
        simp only [List.mem_cons, List.not_mem_nil, or_false] at hx
        rcases hx with e | e | e | e | e
        · exact ⟨3, e, by decide⟩
        · exact ⟨0, e, by decide⟩
        · exact ⟨1, e, by decide⟩
        · exact ⟨6, e, by decide⟩
        · exact ⟨2, e, by decide⟩
      obtain ⟨k, rfl, k7⟩ := hk
      obtain ⟨o5, hb5⟩ := B5.lst
      refine ⟨_, rfl, r, _, rfl, .inl (.inl hr5), fun tn ntn => ?_⟩
      have lz : zs.length = 12 := pz.length_eq
      have ec : cutV (zs.map V.str) none (some ((k : Nat) : Int)) = (zs.take k).map V.str := by
        rw [List.map_take]
        exact cut_take _ _
      have hN : Nm (zs.take k) := ⟨(List.take_sublist k zs).nodup (pz.nodup_iff.mpr nms_nd), fun x hx => pz.mem_iff.mp (List.mem_of_mem_take hx), by rw [List.length_take]; omega⟩
      exact ⟨b, tn, zs.take k, rfl, B5.same (new_same ntn), by rw [upd_same, ec], (ne_of_none hb5 ntn).symm, hN, fun H6 d ks c6 B6 L => ⟨_, d, _, ks, rfl, B6, L, hN⟩⟩
    clear B1
    rintro σ' H2 ⟨y2, d, nm, ks, rfl, B2, lk, hN⟩
    obtain ⟨L, dw, dn⟩ := lk.dw hN.ok
    have few : L.length ≤ 7 := by rw [← dw.en.len]; exact lk.few hN
    have nb := lk.nb
    have nd : (ks.map (·.1)).Nodup := lk.nd
    clear lk hN
    have vb : ∀ e ∈ L, VB e := fun e he => (dn e he).vb
    have ve : ∀ e ∈ L, VE e ∧ e.2.2.length ≤ 60 := fun e he => ⟨(dn e he).ve, by have := (dn e he).k; omega⟩
    -- kept, text
    refine ⟨fun σ' H' => ∃ S, σ' = sg a b y2 (some (.ref d)) (some (.str (shD L))) (some (.str (showE S))) x6 x7 x8 x9 x10 x11 ∧ Bag H' b ∧ DW H' d ks L ∧ S.Perm L ∧ TX.Asc (S.map (·.1)), ?_, ?_⟩
    · obtain ⟨as, c, s1, c1, _⟩ := dw_shw dw ve (by omega)
      refine ⟨_, rfl, _, 3, _, _, _, rfl, s1, by decide, by omega, _, rfl, d, ks, L, rfl, dw, vb, by omega, fun H3 S s3 p3 q3 => ?_⟩
      exact ⟨_, _, rfl, S, rfl, B2.same s3, dw.same s3, p3, q3, (p3.map _).nodup_iff.mpr dw.nd⟩
    clear B2 dw
    rintro σ' H3 ⟨S, rfl, B3, dw, pS, aS⟩
    have fewS : S.length ≤ 7 := by rw [pS.length_eq]; exact few
    have dnS : ∀ e ∈ S, Dn e := fun e he => dn e (pS.mem_iff.mp he)
    have veS : ∀ e ∈ S, VE e ∧ e.2.2.length ≤ 60 := fun e he => ve e (pS.mem_iff.mp he)
    have tb : Tb 7 9 300 (showE S) := drawn_tb dnS fewS
    have tt : Tt (showE S) := tb.tt (by decide) (by decide) (by decide)
    have lt : lockT (showE S) = some S := drawn_lock dnS aS
    have same_text : ∀ S', S'.Perm L → sortedS (S'.map (·.1)) = true → showE S' = showE S := fun S' p' q' => by
      rw [perm_asc ⟨q', (p'.map _).nodup_iff.mpr ((pS.map _).nodup_iff.mp aS.2)⟩ aS (p'.trans pS.symm)]
    generalize showE S = txt at tb tt lt same_text ⊢
    -- due
    refine ⟨fun σ' H' => ∃ p k2, σ' = sg a b y2 (some (.ref d)) (some (.str (shD L))) (some (.str txt)) (some (.ref p)) x7 x8 x9 x10 x11 ∧ Bag H' b ∧ DW H' d ks L ∧ DW H' p k2 S ∧ p ≠ b, ?_, ?_⟩
    · refine ⟨_, rfl, d, ks, rfl, dw.at_, nd, by rw [dw.en.len]; omega, fun H4 p k2 s4 np hp as => ?_⟩
      obtain ⟨L', e1, e2⟩ := ens_perm as.p L (dw.same s4).en
      have aL : TX.Asc (L'.map (·.1)) := ⟨by rw [← e1.keys]; exact as.s, (e2.map _).nodup_iff.mpr dw.nd⟩
      have eS : L' = S := perm_asc aL aS (e2.trans pS.symm)
      rw [eS] at e1
      obtain ⟨o3, hb3⟩ := B3.lst
      exact ⟨p, k2, rfl, B3.same s4, dw.same s4, ⟨hp, aS.2, e1⟩, (ne_of_none hb3 np).symm⟩
    clear B3 dw
    rintro σ' H4 ⟨p, k2, rfl, B4, dw, du, pb⟩
    -- both show the text
    refine ⟨fun σ' H' => σ' = sg a b y2 (some (.ref d)) (some (.str (shD L))) (some (.str txt)) (some (.ref p)) x7 x8 x9 x10 x11 ∧ Same H4 H', ?_, ?_⟩
    · refine ⟨_, rfl, d, ks, L, rfl, dw, vb, by omega, fun H5 S5 s5 p5 q5 => ?_⟩
      rw [same_text S5 p5 q5]
      refine ⟨_, rfl, p, k2, S, rfl, du.same s5, (fun e he => (dnS e he).vb), by omega, fun H6 S6 s6 p6 q6 => ?_⟩
      rw [same_text S6 (p6.trans pS) q6]
      refine ⟨by show 2 ≤ sizeLine; decide, fun l1 n1 => ?_⟩
      have s7 := new_same (o := .lst [.str txt, .str txt]) n1
      have h1 : upd H6 l1 (.lst [.str txt, .str txt]) l1 = some (.lst [.str txt, .str txt]) := upd_same
      generalize upd H6 l1 (.lst [.str txt, .str txt]) = H7 at s7 h1 ⊢
      refine ⟨_, rfl, _, rfl, by show 2 ≤ sizeLine; decide, fun l2 n2 => ?_⟩
      have s8 := new_same (o := .lst [.str txt, .str txt]) n2
      have h2 : upd H7 l2 (.lst [.str txt, .str txt]) l2 = some (.lst [.str txt, .str txt]) := upd_same
      generalize upd H7 l2 (.lst [.str txt, .str txt]) = H8 at s8 h2 ⊢
      have s48 : Same H4 H8 := ((s5.trans s6).trans s7).trans s8
      have ln := tb.len
      try unfold tNil
      show spAlike K _ _ _ _
      refine AL.sp (texts_AL (by have := ln.1; omega) (fun k hk => Nat.lt_trans (ln.2 k hk) (by decide)) (s8 _ _ h1) h2) ?_
      obtain ⟨as, c, z1, c1, _⟩ := dw_shw (dw.same s48) ve (by omega)
      refine ⟨true, rfl, _, rfl, _, 3, _, _, _, rfl, z1, by decide, by omega, _, rfl, rfl, _, rfl, ?_⟩
      rw [show decide (V.str (shD L) = V.str (shD L)) = true from decide_eq_true rfl]
      exact ⟨rfl, s48⟩
    rintro σ' H5 ⟨rfl, s5⟩
    have B5 := B4.same s5
    have dw5 := dw.same s5
    have du5 := du.same s5
    clear B4 dw du s5
    -- told twice
    refine ⟨fun σ' H' => (∃ z7 z8, σ' = sg a b y2 (some (.ref d)) (some (.str (shD L))) (some (.str txt)) (some (.ref p)) z7 z8 x9 x10 x11) ∧ Bag H' b ∧ DW H' d ks L ∧ DW H' p k2 S, ?_, ?_⟩
    · refine ⟨2, rfl, by decide, by decide, for_range (n := 2) (fun _ σ' H' => (∃ z7 z8, σ' = sg a b y2 (some (.ref d)) (some (.str (shD L))) (some (.str txt)) (some (.ref p)) z7 z8 x9 x10 x11) ∧ Same H5 H') ⟨⟨_, _, rfl⟩, Same.refl _⟩ (fun j σ' H6 hj hP => ?_) (fun σ' H6 hP => ⟨hP.1, B5.same hP.2, dw5.same hP.2, du5.same hP.2⟩)⟩
      obtain ⟨⟨z7, z8, rfl⟩, s6⟩ := hP
      refine ⟨fun σ' H' => ∃ y7 g k3, σ' = sg a b y2 (some (.ref d)) (some (.str (shD L))) (some (.str txt)) (some (.ref p)) y7 (some (.ref g)) x9 x10 x11 ∧ Same H5 H' ∧ H5 g = none ∧ DW H' g k3 S, ?_, ?_⟩
      · refine ⟨_, rfl, txt, rfl, tt, fun H7 v s7 ol fr => ?_⟩
        rcases ol with ⟨e, _⟩ | ⟨L', g, k3, e, rfl, dg⟩
        · rw [lt] at e; cases e
        · have eL : S = L' := Option.some.inj (lt.symm.trans e)
          subst eL
          exact ⟨_, g, k3, rfl, s6.trans s7, same_no s6 (fr g rfl), dg⟩
      clear s6
      rintro σ' H7 ⟨y7, g, k3, rfl, s7, ng, dg⟩
      refine ⟨fun σ' H' => σ' = sg a b y2 (some (.ref d)) (some (.str (shD L))) (some (.str txt)) (some (.ref p)) y7 (some (.ref g)) x9 x10 x11 ∧ H7 = H', ?_, ?_⟩
      · refine ⟨_, rfl, _, rfl, ?_⟩
        try unfold tNil
        show spAlike K _ _ _ _
        exact AL.sp (dw_AL dg (du5.same s7) veS (by omega)) ⟨true, rfl, rfl, rfl⟩
      rintro σ' H8 ⟨rfl, rfl⟩
      refine ⟨_, rfl, g, _, rfl, DPut.k (k := Sum.inr "new") dg.at_ (by rw [kk_len, dg.en.len, sizeLine_eq]; omega), ⟨_, _, rfl⟩, fun x u e => ?_⟩
      rw [upd_ne (ne_of_none e ng)]
      exact s7 _ _ e
    clear B5 dw5 du5
    rintro σ' H6 ⟨⟨z7, z8, rfl⟩, B6, dw, du⟩
    -- bent texts
    refine ⟨fun σ' H' => (∃ z9 z10, σ' = sg a b y2 (some (.ref d)) (some (.str (shD L))) (some (.str txt)) (some (.ref p)) z7 z8 z9 z10 x11) ∧ Bag H' b ∧ Chb b H6 H', ?_, ?_⟩
    · refine ⟨6, rfl, by decide, by decide, for_range (n := 6) (fun _ σ' H' => (∃ z9 z10, σ' = sg a b y2 (some (.ref d)) (some (.str (shD L))) (some (.str txt)) (some (.ref p)) z7 z8 z9 z10 x11) ∧ Bag H' b ∧ Chb b H6 H') ⟨⟨_, _, rfl⟩, B6, Chb.refl⟩ (fun j σ' H7 hj hP => ?_) (fun σ' H7 hP => hP)⟩
      obtain ⟨⟨z9, z10, rfl⟩, B7, c7⟩ := hP
      refine ⟨fun σ' H' => ∃ x, σ' = sg a b y2 (some (.ref d)) (some (.str (shD L))) (some (.str txt)) (some (.ref p)) z7 z8 (some (.int (0 + (j : Nat)))) (some (.str x)) x11 ∧ Bag H' b ∧ Chb b H6 H' ∧ Tb 8 22 3641 x, ?_, ?_⟩
      · exact ⟨_, rfl, _, rfl, b, txt, 7, 9, 300, rfl, B7, tb, ⟨by decide, by decide, by decide, by decide⟩, fun H8 x c8 B8 t8 => ⟨x, rfl, B8, c7.trans c8, t8⟩⟩
      clear B7 c7
      rintro σ' H8 ⟨x, rfl, B8, c8, t8⟩
      refine ⟨fun σ' H' => ∃ x, σ' = sg a b y2 (some (.ref d)) (some (.str (shD L))) (some (.str txt)) (some (.ref p)) z7 z8 (some (.int (0 + (j : Nat)))) (some (.str x)) x11 ∧ Bag H' b ∧ Chb b H6 H' ∧ Tt x, ?_, ?_⟩
      · refine ⟨_, rfl, _, _, rfl, rfl, _, rfl, ite2 (fun e => ?_) (fun e => ?_)⟩
        · exact ⟨_, rfl, _, rfl, b, x, 8, 22, 3641, rfl, B8, t8, ⟨by decide, by decide, by decide, by decide⟩, fun H9 x' c9 B9 t9 => ⟨x', rfl, B9, c8.trans c9, t9.tt (by decide) (by decide) (by decide)⟩⟩
        · exact ⟨_, rfl, x, rfl, B8, c8, t8.tt (by decide) (by decide) (by decide)⟩
      clear B8 c8 t8
      rintro σ' H9 ⟨y, rfl, B9, c9, ty⟩
      refine ⟨_, rfl, .inr ⟨y, rfl, ty, fun H10 r v s10 o1 h1 _ => ?_⟩⟩
      refine ⟨_, rfl, y, rfl, ty, fun H11 u s11 o2 => ⟨by show 2 ≤ sizeLine; decide, fun r2 n2 => ?_⟩⟩
      have s12 := new_same (o := .tup [.str "told", u]) n2
      have h2 : upd H11 r2 (.tup [.str "told", u]) r2 = some (.tup [.str "told", u]) := upd_same
      generalize upd H11 r2 (.tup [.str "told", u]) = H12 at s12 h2 ⊢
      try unfold tNil
      show spAlike K _ _ _ _
      refine AL.sp (told_AL ty (o1.same (s11.trans s12)) (o2.same s12) ((s11.trans s12) _ _ h1) h2) ⟨true, rfl, ⟨_, _, rfl⟩, ?_, ?_⟩
      · exact B9.same ((s10.trans s11).trans s12)
      · exact c9.trans (Chb.same ((s10.trans s11).trans s12))
    rintro σ' H7 ⟨⟨z9, z10, rfl⟩, B7, c7⟩
    have dw7 := dw.chb nb B6 c7
    clear B6 dw du c7
    -- a value of any kind
    refine ⟨fun σ' H' => ∃ v, σ' = sg a b y2 (some (.ref d)) (some (.str (shD L))) (some (.str txt)) (some (.ref p)) z7 z8 z9 z10 (some v) ∧ Bag H' b ∧ Od K b H' v, ?_, ?_⟩
    · have S0 : Stt K b H7 H7 [.ref d] := ⟨Chb.refl, B7, all_cons (.dic nb dw7.at_) fun v hv => by cases hv⟩
      refine ⟨_, rfl, _, rfl, _, rfl, d, _, rfl, dw7.at_, fun l1 n1 => ?_⟩
      have S1 := S0.lst n1 (List.map (fun kv => kV kv.1) (kk ks))
      clear n1 S0
      generalize upd H7 l1 _ = H8 at S1 ⊢
      refine ⟨_, rfl, by show 1 ≤ sizeLine; decide, fun l2 n2 => ?_⟩
      have S2 := S1.tup n2 [.str txt]
      clear n2 S1
      generalize upd H8 l2 _ = H9 at S2 ⊢
      refine ⟨_, rfl, b, rfl, S2.B, fun H10 v c10 B10 ov => ?_⟩
      have S3 : Stt K b H7 H10 (v :: [.ref l2, .ref l1, .ref d]) := ⟨S2.c.trans c10, B10, all_cons ov fun u hu => (S2.o u hu).chg c10⟩
      clear S2 c10 B10 ov
      intro l3 n3
      have S4 : Stt K b H7 (upd H10 l3 (ExO (.ref CP) l3)) _ := S3.new n3 (.exc (S3.ne n3) upd_same T.cP T.iP)
      clear n3 S3
      generalize upd H10 l3 _ = H11 at S4 ⊢
      refine ⟨_, rfl, by show 6 ≤ sizeLine; decide, fun l4 n4 => ?_⟩
      refine ⟨b, l4, _, rfl, S4.B.same (new_same n4), upd_same, S4.ne n4, by simp, by show 6 ≤ 1000; decide, fun H12 x c12 B12 hx => ?_⟩
      have all : ∀ x ∈ [V.ref d, .ref l1, .ref l2, v, .ref l3, .str txt], Od K b H11 x := all_cons (S4.o _ (by simp)) (all_cons (S4.o _ (by simp)) (all_cons (S4.o _ (by simp)) (all_cons (S4.o _ (by simp)) (all_cons (S4.o _ (by simp)) (all_cons (.str _ tt) fun v hv => by cases hv)))))
      exact ⟨x, rfl, B12, ((all x hx).chg (Chb.new n4)).chg c12⟩
    clear B7 dw7
    rintro σ' H8 ⟨v, rfl, B8, ov⟩
    rcases ov.is with hn | ⟨x, rfl, tx⟩
    · refine ⟨_, rfl, .inl ⟨v, rfl, hn, fun H9 r s9 h9 _ => ?_⟩⟩
      have hn9 := (ov.chg (Chb.same s9)).is
      rcases hn9 with hn9 | ⟨x, rfl, _⟩
      · refine ⟨_, rfl, v, false, rfl, hn9, false, rfl, ?_⟩
        refine ⟨by show 2 ≤ sizeLine; decide, fun r2 n2 => ?_⟩
        have s10 := new_same (o := .tup [.str "wrong", .int 0]) n2
        have h10 : upd H9 r2 (.tup [.str "wrong", .int 0]) r2 = some (.tup [.str "wrong", .int 0]) := upd_same
        generalize upd H9 r2 (.tup [.str "wrong", .int 0]) = H10 at s10 h10 ⊢
        try unfold tNil
        show spAlike K _ _ _ _
        exact AL.sp (wrong_AL (s10 _ _ h9) h10) ⟨true, rfl, ⟨_, _, _, _, _, _, _, _, _, _, rfl⟩, B8.same (s9.trans s10)⟩
      · exact (not_str hn).elim
    · refine ⟨_, rfl, .inr ⟨x, rfl, tx, fun H9 r u s9 o1 h1 _ => ?_⟩⟩
      refine ⟨_, rfl, .str x, true, rfl, IsS.str x, true, rfl, ?_⟩
      refine ⟨_, rfl, x, rfl, tx, fun H10 u2 s10 o2 => ⟨by show 2 ≤ sizeLine; decide, fun r2 n2 => ?_⟩⟩
      have s11 := new_same (o := .tup [.str "told", u2]) n2
      have h2 : upd H10 r2 (.tup [.str "told", u2]) r2 = some (.tup [.str "told", u2]) := upd_same
      generalize upd H10 r2 (.tup [.str "told", u2]) = H11 at s11 h2 ⊢
      try unfold tNil
      show spAlike K _ _ _ _
      exact AL.sp (told_AL tx (o1.same (s10.trans s11)) (o2.same s11) ((s10.trans s11) _ _ h1) h2) ⟨true, rfl, ⟨_, _, _, _, _, _, _, _, _, _, rfl⟩, B8.same ((s9.trans s10).trans s11)⟩
end
end V9
/-! What the top has written. -/
namespace V9
open PySem PySem.Spec PyProof.Rows L2
theorem all_mk {P : Program} {w : World} {K : PySem.W.Frag} {h : Heap} {mg : PySem.Str → Option Value} {fa : Addr} (X : K.In h) (G : h.Ns mainGlobals mg) (hfa : mg "law" = some (.ref fa))
    {fT : Addr} {odT anT : Option Addr} {slT : Array (Option Value)} {ocT kVT dcT pmT cdT ctT : Value} {fO : Addr} {odO anO : Option Addr} {slO : Array (Option Value)} {ocO kVO dcO pmO cdO ctO : Value} {fM : Addr} {odM anM : Option Addr} {slM : Array (Option Value)} {ocM kVM dcM pmM cdM ctM : Value} {fV : Addr} {odV anV : Option Addr} {slV : Array (Option Value)} {ocV kVV dcV pmV cdV ctV : Value} {fE : Addr} {odE anE : Option Addr} {slE : Array (Option Value)} {ocE kVE dcE pmE cdE ctE : Value} {fN1 : Addr} {odN1 anN1 : Option Addr} {slN1 : Array (Option Value)} {ocN1 kVN1 dcN1 pmN1 cdN1 ctN1 : Value} {fN2 : Addr} {odN2 anN2 : Option Addr} {slN2 : Array (Option Value)} {ocN2 kVN2 dcN2 pmN2 cdN2 ctN2 : Value} {fN3 : Addr} {odN3 anN3 : Option Addr} {slN3 : Array (Option Value)} {ocN3 kVN3 dcN3 pmN3 cdN3 ctN3 : Value} {fN4 : Addr} {odN4 anN4 : Option Addr} {slN4 : Array (Option Value)} {ocN4 kVN4 dcN4 pmN4 cdN4 ctN4 : Value} {fN5 : Addr} {odN5 anN5 : Option Addr} {slN5 : Array (Option Value)} {ocN5 kVN5 dcN5 pmN5 cdN5 ctN5 : Value} {fN6 : Addr} {odN6 anN6 : Option Addr} {slN6 : Array (Option Value)} {ocN6 kVN6 dcN6 pmN6 cdN6 ctN6 : Value} {fS1 : Addr} {odS1 anS1 : Option Addr} {slS1 : Array (Option Value)} {ocS1 kVS1 dcS1 pmS1 cdS1 ctS1 : Value} {fS2 : Addr} {odS2 anS2 : Option Addr} {slS2 : Array (Option Value)} {ocS2 kVS2 dcS2 pmS2 cdS2 ctS2 : Value} {fS3 : Addr} {odS3 anS3 : Option Addr} {slS3 : Array (Option Value)} {ocS3 kVS3 dcS3 pmS3 cdS3 ctS3 : Value} {fS4 : Addr} {odS4 anS4 : Option Addr} {slS4 : Array (Option Value)} {ocS4 kVS4 dcS4 pmS4 cdS4 ctS4 : Value} {fS5 : Addr} {odS5 anS5 : Option Addr} {slS5 : Array (Option Value)} {ocS5 kVS5 dcS5 pmS5 cdS5 ctS5 : Value} {fL1 : Addr} {odL1 anL1 : Option Addr} {slL1 : Array (Option Value)} {ocL1 kVL1 dcL1 pmL1 cdL1 ctL1 : Value} {fL2 : Addr} {odL2 anL2 : Option Addr} {slL2 : Array (Option Value)} {ocL2 kVL2 dcL2 pmL2 cdL2 ctL2 : Value} {fL3 : Addr} {odL3 anL3 : Option Addr} {slL3 : Array (Option Value)} {ocL3 kVL3 dcL3 pmL3 cdL3 ctL3 : Value} {fL4 : Addr} {odL4 anL4 : Option Addr} {slL4 : Array (Option Value)} {ocL4 kVL4 dcL4 pmL4 cdL4 ctL4 : Value} {fL5 : Addr} {odL5 anL5 : Option Addr} {slL5 : Array (Option Value)} {ocL5 kVL5 dcL5 pmL5 cdL5 ctL5 : Value} {fL6 : Addr} {odL6 anL6 : Option Addr} {slL6 : Array (Option Value)} {ocL6 kVL6 dcL6 pmL6 cdL6 ctL6 : Value} {fB : Addr} {odB anB : Option Addr} {slB : Array (Option Value)} {ocB kVB dcB pmB cdB ctB : Value} {fNm : Addr} {odNm anNm : Option Addr} {slNm : Array (Option Value)} {ocNm kVNm dcNm pmNm cdNm ctNm : Value} {fA : Addr} {odA anA : Option Addr} {slA : Array (Option Value)} {ocA kVA dcA pmA cdA ctA : Value} {fAl : Addr} {odAl anAl : Option Addr} {slAl : Array (Option Value)} {ocAl kVAl dcAl pmAl cdAl ctAl : Value} {fAs : Addr} {odAs anAs : Option Addr} {slAs : Array (Option Value)} {ocAs kVAs dcAs pmAs cdAs ctAs : Value} {fHe : Addr} {odHe anHe : Option Addr} {slHe : Array (Option Value)} {ocHe kVHe dcHe pmHe cdHe ctHe : Value} {fRd : Addr} {odRd anRd : Option Addr} {slRd : Array (Option Value)} {ocRd kVRd dcRd pmRd cdRd ctRd : Value} {fLr : Addr} {odLr anLr : Option Addr} {slLr : Array (Option Value)} {ocLr kVLr dcLr pmLr cdLr ctLr : Value} {fBl : Addr} {odBl anBl : Option Addr} {slBl : Array (Option Value)} {ocBl kVBl dcBl pmBl cdBl ctBl : Value} {fBt : Addr} {odBt anBt : Option Addr} {slBt : Array (Option Value)} {ocBt kVBt dcBt pmBt cdBt ctBt : Value} {fOd : Addr} {odOd anOd : Option Addr} {slOd : Array (Option Value)} {ocOd kVOd dcOd pmOd cdOd ctOd : Value} {fW : Addr} {odW anW : Option Addr} {slW : Array (Option Value)} {ocW kVW dcW pmW cdW ctW : Value} {cX cP fIn : Addr} {nmX qX : PySem.Str} {NX : Addr} {bsX bmX : List Value} {snX : List PySem.Str} {subX : List Value} {abX : Bool} {colX : Option Bool} {ddX : Option Addr} {maX mbX mcX mdX meX : Option Value} {odIn anIn : Option Addr} {slIn : Array (Option Value)} {ocIn kVIn dcIn pmIn cdIn ctIn : Value} {tk20 : Tok} {tkLt : Tok} {tkNz : Tok} {tk6 : Tok} {tkFg : Tok}
    (ncX : PySem.W.nsIn K mainGlobals "Wrong" = some (some (.ref cX)))
    (ncP : PySem.W.nsIn K mainGlobals "PackError" = some (some (.ref cP)))
    (xX : K.lookup cX = some (excClassObj nmX qX cX NX bsX bmX true snX subX abX colX ddX maX mbX mcX mdX meX "ValueError.__new__"))
    (jX : PySem.W.findIn K (.ref cX) "__init__" = some (some (.ref fIn)))
    (mIn : K.lookup fIn = some ⟨ocIn, odIn, .func (PySem.W.fnOf "__init__" "Wrong.__init__" (defArgs sInitW) (defBody sInitW) (defScope sInitW) .none kVIn dcIn pmIn anIn cdIn ctIn), slIn⟩)
    (gT : PySem.W.nsIn K mainGlobals "_law_take" = some (some (.ref fT)))
    (gO : PySem.W.nsIn K mainGlobals "_law_one" = some (some (.ref fO)))
    (gM : PySem.W.nsIn K mainGlobals "_law_mixed" = some (some (.ref fM)))
    (gV : PySem.W.nsIn K mainGlobals "_law_version" = some (some (.ref fV)))
    (gE : PySem.W.nsIn K mainGlobals "_law_feature_names" = some (some (.ref fE)))
    (gN1 : PySem.W.nsIn K mainGlobals "is_name" = some (some (.ref fN1)))
    (gN2 : PySem.W.nsIn K mainGlobals "version_told" = some (some (.ref fN2)))
    (gN3 : PySem.W.nsIn K mainGlobals "is_shown_number" = some (some (.ref fN3)))
    (gN4 : PySem.W.nsIn K mainGlobals "is_lot_of_names" = some (some (.ref fN4)))
    (gN5 : PySem.W.nsIn K mainGlobals "is_all_of" = some (some (.ref fN5)))
    (gN6 : PySem.W.nsIn K mainGlobals "is_ascending" = some (some (.ref fN6)))
    (gS1 : PySem.W.nsIn K mainGlobals "show_lock" = some (some (.ref fS1)))
    (gS2 : PySem.W.nsIn K mainGlobals "held_told" = some (some (.ref fS2)))
    (gS3 : PySem.W.nsIn K mainGlobals "lock_line" = some (some (.ref fS3)))
    (gS4 : PySem.W.nsIn K mainGlobals "show_features" = some (some (.ref fS4)))
    (gS5 : PySem.W.nsIn K mainGlobals "show_version" = some (some (.ref fS5)))
    (gL1 : PySem.W.nsIn K mainGlobals "_law_is_a_name" = some (some (.ref fL1)))
    (gL2 : PySem.W.nsIn K mainGlobals "_law_number" = some (some (.ref fL2)))
    (gL3 : PySem.W.nsIn K mainGlobals "_law_is_version" = some (some (.ref fL3)))
    (gL4 : PySem.W.nsIn K mainGlobals "_law_integer" = some (some (.ref fL4)))
    (gL5 : PySem.W.nsIn K mainGlobals "_law_text_of_lock" = some (some (.ref fL5)))
    (gL6 : PySem.W.nsIn K mainGlobals "_law_shown_version" = some (some (.ref fL6)))
    (gB : PySem.W.nsIn K mainGlobals "_law_bag" = some (some (.ref fB)))
    (gNm : PySem.W.nsIn K mainGlobals "_law_names" = some (some (.ref fNm)))
    (gA : PySem.W.nsIn K mainGlobals "_law_any_lock" = some (some (.ref fA)))
    (gAl : PySem.W.nsIn K mainGlobals "_law_alike" = some (some (.ref fAl)))
    (gAs : PySem.W.nsIn K mainGlobals "_law_ascending_dict" = some (some (.ref fAs)))
    (gHe : PySem.W.nsIn K mainGlobals "_law_heard" = some (some (.ref fHe)))
    (gRd : PySem.W.nsIn K mainGlobals "read_lock" = some (some (.ref fRd)))
    (gLr : PySem.W.nsIn K mainGlobals "_law_lock_read" = some (some (.ref fLr)))
    (gBl : PySem.W.nsIn K mainGlobals "_law_bent_line" = some (some (.ref fBl)))
    (gBt : PySem.W.nsIn K mainGlobals "_law_bent_text" = some (some (.ref fBt)))
    (gOd : PySem.W.nsIn K mainGlobals "_law_odd" = some (some (.ref fOd)))
    (gW : PySem.W.nsIn K mainGlobals "law" = some (some (.ref fW)))
    (lT : K.lookup fT = some ⟨ocT, odT, .func (PySem.W.fnOf "_law_take" "_law_take" (defArgs sTake) (defBody sTake) (defScope sTake) .none kVT dcT pmT anT cdT ctT), slT⟩)
    (lO : K.lookup fO = some ⟨ocO, odO, .func (PySem.W.fnOf "_law_one" "_law_one" (defArgs sOne) (defBody sOne) (defScope sOne) .none kVO dcO pmO anO cdO ctO), slO⟩)
    (lM : K.lookup fM = some ⟨ocM, odM, .func (PySem.W.fnOf "_law_mixed" "_law_mixed" (defArgs sMixed) (defBody sMixed) (defScope sMixed) .none kVM dcM pmM anM cdM ctM), slM⟩)
    (lV : K.lookup fV = some ⟨ocV, odV, .func (PySem.W.fnOf "_law_version" "_law_version" (defArgs sVersion) (defBody sVersion) (defScope sVersion) .none kVV dcV pmV anV cdV ctV), slV⟩)
    (lE : K.lookup fE = some ⟨ocE, odE, .func (PySem.W.fnOf "_law_feature_names" "_law_feature_names" (defArgs sFeat) (defBody sFeat) (defScope sFeat) .none kVE dcE pmE anE cdE ctE), slE⟩)
    (lN1 : K.lookup fN1 = some ⟨ocN1, odN1, .func (PySem.W.fnOf "is_name" "is_name" (defArgs sIsName) (defBody sIsName) (defScope sIsName) .none kVN1 dcN1 pmN1 anN1 cdN1 ctN1), slN1⟩)
    (lN2 : K.lookup fN2 = some ⟨ocN2, odN2, .func (PySem.W.fnOf "version_told" "version_told" (defArgs sTold) (defBody sTold) (defScope sTold) .none kVN2 dcN2 pmN2 anN2 cdN2 ctN2), slN2⟩)
    (lN3 : K.lookup fN3 = some ⟨ocN3, odN3, .func (PySem.W.fnOf "is_shown_number" "is_shown_number" (defArgs sShown) (defBody sShown) (defScope sShown) .none kVN3 dcN3 pmN3 anN3 cdN3 ctN3), slN3⟩)
    (lN4 : K.lookup fN4 = some ⟨ocN4, odN4, .func (PySem.W.fnOf "is_lot_of_names" "is_lot_of_names" (defArgs sLot) (defBody sLot) (defScope sLot) .none kVN4 dcN4 pmN4 anN4 cdN4 ctN4), slN4⟩)
    (lN5 : K.lookup fN5 = some ⟨ocN5, odN5, .func (PySem.W.fnOf "is_all_of" "is_all_of" (defArgs sAll) (defBody sAll) (defScope sAll) .none kVN5 dcN5 pmN5 anN5 cdN5 ctN5), slN5⟩)
    (lN6 : K.lookup fN6 = some ⟨ocN6, odN6, .func (PySem.W.fnOf "is_ascending" "is_ascending" (defArgs sAscd) (defBody sAscd) (defScope sAscd) .none kVN6 dcN6 pmN6 anN6 cdN6 ctN6), slN6⟩)
    (lS1 : K.lookup fS1 = some ⟨ocS1, odS1, .func (PySem.W.fnOf "show_lock" "show_lock" (defArgs sLock) (defBody sLock) (defScope sLock) .none kVS1 dcS1 pmS1 anS1 cdS1 ctS1), slS1⟩)
    (lS2 : K.lookup fS2 = some ⟨ocS2, odS2, .func (PySem.W.fnOf "held_told" "held_told" (defArgs sHeld) (defBody sHeld) (defScope sHeld) .none kVS2 dcS2 pmS2 anS2 cdS2 ctS2), slS2⟩)
    (lS3 : K.lookup fS3 = some ⟨ocS3, odS3, .func (PySem.W.fnOf "lock_line" "lock_line" (defArgs sLine) (defBody sLine) (defScope sLine) .none kVS3 dcS3 pmS3 anS3 cdS3 ctS3), slS3⟩)
    (lS4 : K.lookup fS4 = some ⟨ocS4, odS4, .func (PySem.W.fnOf "show_features" "show_features" (defArgs sFts) (defBody sFts) (defScope sFts) .none kVS4 dcS4 pmS4 anS4 cdS4 ctS4), slS4⟩)
    (lS5 : K.lookup fS5 = some ⟨ocS5, odS5, .func (PySem.W.fnOf "show_version" "show_version" (defArgs sShow) (defBody sShow) (defScope sShow) .none kVS5 dcS5 pmS5 anS5 cdS5 ctS5), slS5⟩)
    (lL1 : K.lookup fL1 = some ⟨ocL1, odL1, .func (PySem.W.fnOf "_law_is_a_name" "_law_is_a_name" (defArgs sLName) (defBody sLName) (defScope sLName) .none kVL1 dcL1 pmL1 anL1 cdL1 ctL1), slL1⟩)
    (lL2 : K.lookup fL2 = some ⟨ocL2, odL2, .func (PySem.W.fnOf "_law_number" "_law_number" (defArgs sNumb) (defBody sNumb) (defScope sNumb) .none kVL2 dcL2 pmL2 anL2 cdL2 ctL2), slL2⟩)
    (lL3 : K.lookup fL3 = some ⟨ocL3, odL3, .func (PySem.W.fnOf "_law_is_version" "_law_is_version" (defArgs sLIsVer) (defBody sLIsVer) (defScope sLIsVer) .none kVL3 dcL3 pmL3 anL3 cdL3 ctL3), slL3⟩)
    (lL4 : K.lookup fL4 = some ⟨ocL4, odL4, .func (PySem.W.fnOf "_law_integer" "_law_integer" (defArgs sInteger) (defBody sInteger) (defScope sInteger) .none kVL4 dcL4 pmL4 anL4 cdL4 ctL4), slL4⟩)
    (lL5 : K.lookup fL5 = some ⟨ocL5, odL5, .func (PySem.W.fnOf "_law_text_of_lock" "_law_text_of_lock" (defArgs sLText) (defBody sLText) (defScope sLText) .none kVL5 dcL5 pmL5 anL5 cdL5 ctL5), slL5⟩)
    (lL6 : K.lookup fL6 = some ⟨ocL6, odL6, .func (PySem.W.fnOf "_law_shown_version" "_law_shown_version" (defArgs sSaid) (defBody sSaid) (defScope sSaid) .none kVL6 dcL6 pmL6 anL6 cdL6 ctL6), slL6⟩)
    (lB : K.lookup fB = some ⟨ocB, odB, .func (PySem.W.fnOf "_law_bag" "_law_bag" (defArgs sBag) (defBody sBag) (defScope sBag) .none kVB dcB pmB anB cdB ctB), slB⟩)
    (lNm : K.lookup fNm = some ⟨ocNm, odNm, .func (PySem.W.fnOf "_law_names" "_law_names" (defArgs sNames) (defBody sNames) (defScope sNames) .none kVNm dcNm pmNm anNm cdNm ctNm), slNm⟩)
    (lA : K.lookup fA = some ⟨ocA, odA, .func (PySem.W.fnOf "_law_any_lock" "_law_any_lock" (defArgs sAny) (defBody sAny) (defScope sAny) .none kVA dcA pmA anA cdA ctA), slA⟩)
    (lAl : K.lookup fAl = some ⟨ocAl, odAl, .func (PySem.W.fnOf "_law_alike" "_law_alike" (defArgs sAlike) (defBody sAlike) (defScope sAlike) .none kVAl dcAl pmAl anAl cdAl ctAl), slAl⟩)
    (lAs : K.lookup fAs = some ⟨ocAs, odAs, .func (PySem.W.fnOf "_law_ascending_dict" "_law_ascending_dict" (defArgs sAsc) (defBody sAsc) (defScope sAsc) .none kVAs dcAs pmAs anAs cdAs ctAs), slAs⟩)
    (lHe : K.lookup fHe = some ⟨ocHe, odHe, .func (PySem.W.fnOf "_law_heard" "_law_heard" (defArgs sHeard) (defBody sHeard) (defScope sHeard) .none kVHe dcHe pmHe anHe cdHe ctHe), slHe⟩)
    (lRd : K.lookup fRd = some ⟨ocRd, odRd, .func (PySem.W.fnOf "read_lock" "read_lock" (defArgs sRdL) (defBody sRdL) (defScope sRdL) .none kVRd dcRd pmRd anRd cdRd ctRd), slRd⟩)
    (lLr : K.lookup fLr = some ⟨ocLr, odLr, .func (PySem.W.fnOf "_law_lock_read" "_law_lock_read" (defArgs sLRead) (defBody sLRead) (defScope sLRead) .none kVLr dcLr pmLr anLr cdLr ctLr), slLr⟩)
    (lBl : K.lookup fBl = some ⟨ocBl, odBl, .func (PySem.W.fnOf "_law_bent_line" "_law_bent_line" (defArgs sBLine) (defBody sBLine) (defScope sBLine) .none kVBl dcBl pmBl anBl cdBl ctBl), slBl⟩)
    (lBt : K.lookup fBt = some ⟨ocBt, odBt, .func (PySem.W.fnOf "_law_bent_text" "_law_bent_text" (defArgs sBText) (defBody sBText) (defScope sBText) .none kVBt dcBt pmBt anBt cdBt ctBt), slBt⟩)
    (lOd : K.lookup fOd = some ⟨ocOd, odOd, .func (PySem.W.fnOf "_law_odd" "_law_odd" (defArgs sOdd) (defBody sOdd) (defScope sOdd) .none kVOd dcOd pmOd anOd cdOd ctOd), slOd⟩)
    (lW : K.lookup fW = some ⟨ocW, odW, .func (PySem.W.fnOf "law" "law" (defArgs sLaw) (defBody sLaw) (defScope sLaw) .none kVW dcW pmW anW cdW ctW), slW⟩)
    (BX : (PySem.W.keepIn K (.ref cX) && (PySem.W.typeIn K (.ref cX) == some (.type "type")) && (PySem.W.subIn K (.ref cX) (.type "BaseException") == some true) && (PySem.W.findIn K (.ref cX) "__setattr__" == some (some (.builtin "object.__setattr__"))) && PySem.HandSPX.refsVE bmX && (PySem.W.findIn K (.ref cX) "place" == some none) && (PySem.W.typeIn K (.ref fIn) == some (.type "function")) && PySem.W.keepIn K (.ref fIn) && PySem.W.codeIn K cdIn "Wrong.__init__" && xfB K cX && (PySem.W.exmOne K (.ref cX) (.ref cX) == some true)) = true)
    (q20 : PySem.W.nsIn K mainGlobals "LONGEST_NAME" = some (some (.int 20 tk20)))
    (qLt : PySem.W.nsIn K mainGlobals "LETTERS" = some (some (.str Lt tkLt)))
    (qNz : PySem.W.nsIn K mainGlobals "NAME_SIGNS" = some (some (.str Nz tkNz)))
    (q6 : PySem.W.nsIn K mainGlobals "MOST_FIGURES" = some (some (.int 6 tk6)))
    (qFg : PySem.W.nsIn K mainGlobals "FIGURES" = some (some (.str Fg tkFg)))
    (eP : PySem.W.excIn K cP [.type "ValueError", .type "Exception", .type "BaseException", .type "object"] "ValueError.__new__" = true)
    (BP : (PySem.W.keepIn K (.ref cP) && (PySem.W.findIn K (.ref cP) "__getattribute__" == some (some (.builtin "BaseException.__getattribute__"))) && (PySem.W.findIn K (.ref cP) "__getattr__" == some none) && (PySem.W.subIn K (.ref cP) (.type "BaseException") == some true) && PySem.W.hasDictIn K cP && (PySem.W.findIn K (.ref cP) "__class__" == some (some (.builtin "object.__class__"))) && (PySem.W.specialIn K (.builtin "object.__class__") "__get__" == some (some (.builtin "getset_descriptor.__get__"))) && (PySem.W.takesIn K (.builtin "object.__class__") == some true) && (PySem.W.mroIn K cP (.type "object") == some true) && (PySem.W.kitOne K (.ref cP) (.type "str") == some false)) = true)
    (kT : (PySem.W.codeIn K cdT "_law_take" && PySem.W.keepIn K (.ref fT)) = true)
    (kO : (PySem.W.codeIn K cdO "_law_one" && PySem.W.keepIn K (.ref fO)) = true)
    (kM : (PySem.W.codeIn K cdM "_law_mixed" && PySem.W.keepIn K (.ref fM)) = true)
    (kV : (PySem.W.codeIn K cdV "_law_version" && PySem.W.keepIn K (.ref fV)) = true)
    (kE : (PySem.W.codeIn K cdE "_law_feature_names" && PySem.W.keepIn K (.ref fE)) = true)
    (kN1 : (PySem.W.codeIn K cdN1 "is_name" && PySem.W.keepIn K (.ref fN1)) = true)
    (kN2 : (PySem.W.codeIn K cdN2 "version_told" && PySem.W.keepIn K (.ref fN2)) = true)
    (kN3 : (PySem.W.codeIn K cdN3 "is_shown_number" && PySem.W.keepIn K (.ref fN3)) = true)
    (kN4 : (PySem.W.codeIn K cdN4 "is_lot_of_names" && PySem.W.keepIn K (.ref fN4)) = true)
    (kN5 : (PySem.W.codeIn K cdN5 "is_all_of" && PySem.W.keepIn K (.ref fN5)) = true)
    (kN6 : (PySem.W.codeIn K cdN6 "is_ascending" && PySem.W.keepIn K (.ref fN6)) = true)
    (kS1 : (PySem.W.codeIn K cdS1 "show_lock" && PySem.W.keepIn K (.ref fS1)) = true)
    (kS2 : (PySem.W.codeIn K cdS2 "held_told" && PySem.W.keepIn K (.ref fS2)) = true)
    (kS3 : (PySem.W.codeIn K cdS3 "lock_line" && PySem.W.keepIn K (.ref fS3)) = true)
    (kS4 : (PySem.W.codeIn K cdS4 "show_features" && PySem.W.keepIn K (.ref fS4)) = true)
    (kS5 : (PySem.W.codeIn K cdS5 "show_version" && PySem.W.keepIn K (.ref fS5)) = true)
    (kL1 : (PySem.W.codeIn K cdL1 "_law_is_a_name" && PySem.W.keepIn K (.ref fL1)) = true)
    (kL2 : (PySem.W.codeIn K cdL2 "_law_number" && PySem.W.keepIn K (.ref fL2)) = true)
    (kL3 : (PySem.W.codeIn K cdL3 "_law_is_version" && PySem.W.keepIn K (.ref fL3)) = true)
    (kL4 : (PySem.W.codeIn K cdL4 "_law_integer" && PySem.W.keepIn K (.ref fL4)) = true)
    (kL5 : (PySem.W.codeIn K cdL5 "_law_text_of_lock" && PySem.W.keepIn K (.ref fL5)) = true)
    (kL6 : (PySem.W.codeIn K cdL6 "_law_shown_version" && PySem.W.keepIn K (.ref fL6)) = true)
    (kB : (PySem.W.codeIn K cdB "_law_bag" && PySem.W.keepIn K (.ref fB)) = true)
    (kNm : (PySem.W.codeIn K cdNm "_law_names" && PySem.W.keepIn K (.ref fNm)) = true)
    (kA : (PySem.W.codeIn K cdA "_law_any_lock" && PySem.W.keepIn K (.ref fA)) = true)
    (kAl : (PySem.W.codeIn K cdAl "_law_alike" && PySem.W.keepIn K (.ref fAl)) = true)
    (kAs : (PySem.W.codeIn K cdAs "_law_ascending_dict" && PySem.W.keepIn K (.ref fAs)) = true)
    (kHe : (PySem.W.codeIn K cdHe "_law_heard" && PySem.W.keepIn K (.ref fHe)) = true)
    (kRd : (PySem.W.codeIn K cdRd "read_lock" && PySem.W.keepIn K (.ref fRd)) = true)
    (kLr : (PySem.W.codeIn K cdLr "_law_lock_read" && PySem.W.keepIn K (.ref fLr)) = true)
    (kBl : (PySem.W.codeIn K cdBl "_law_bent_line" && PySem.W.keepIn K (.ref fBl)) = true)
    (kBt : (PySem.W.codeIn K cdBt "_law_bent_text" && PySem.W.keepIn K (.ref fBt)) = true)
    (kOd : (PySem.W.codeIn K cdOd "_law_odd" && PySem.W.keepIn K (.ref fOd)) = true)
    (kW : (PySem.W.codeIn K cdW "law" && PySem.W.keepIn K (.ref fW)) = true)
    (BN : ([("int" : PySem.Str), ("len" : PySem.Str), ("range" : PySem.Str), ("tuple" : PySem.Str), ("sorted" : PySem.Str), ("set" : PySem.Str), ("dict" : PySem.Str), ("list" : PySem.Str), ("repr" : PySem.Str), ("abs" : PySem.Str), ("isinstance" : PySem.Str), ("str" : PySem.Str), ("all" : PySem.Str), ("bool" : PySem.Str)].all fun x => PySem.W.nsIn K mainGlobals x == some none) = true) :
    ∃ fd : FuncData, (∀ (s : Shared) (v : Value), BindsTo s fd ⟨[v], []⟩ [("script", v)]) ∧ ∀ base : Heap, K.In base → base.Ns mainGlobals mg → Ok0 P w K mg base 9 fa fd ["script"] (spLaw K) := by
  have e := hfa.symm.trans (PySem.W.mg_of X G gW); cases e
  have nn : ∀ x : PySem.Str, x ∈ [("int" : PySem.Str), ("len" : PySem.Str), ("range" : PySem.Str), ("tuple" : PySem.Str), ("sorted" : PySem.Str), ("set" : PySem.Str), ("dict" : PySem.Str), ("list" : PySem.Str), ("repr" : PySem.Str), ("abs" : PySem.Str), ("isinstance" : PySem.Str), ("str" : PySem.Str), ("all" : PySem.Str), ("bool" : PySem.Str)] → mg x = none := fun x hx => PySem.W.mg_none_of X G (beq_iff_eq.mp (List.all_eq_true.mp BN x hx))
  have kT' := Bool.and_eq_true_iff.mp kT
  have FT := fun_mk (st := sTake) lT kT'.1 kT'.2
  have bT := FT.binds (ps := ["bag", "many"]) fun _ _ _ _ _ _ us hl => match us, hl with | [_, _], _ => rfl
  have kO' := Bool.and_eq_true_iff.mp kO
  have FO := fun_mk (st := sOne) lO kO'.1 kO'.2
  have bO := FO.binds (ps := ["bag", "things"]) fun _ _ _ _ _ _ us hl => match us, hl with | [_, _], _ => rfl
  have kM' := Bool.and_eq_true_iff.mp kM
  have FM := fun_mk (st := sMixed) lM kM'.1 kM'.2
  have bM := FM.binds (ps := ["bag", "things"]) fun _ _ _ _ _ _ us hl => match us, hl with | [_, _], _ => rfl
  have kV' := Bool.and_eq_true_iff.mp kV
  have FV := fun_mk (st := sVersion) lV kV'.1 kV'.2
  have bV := FV.binds (ps := ["bag"]) fun _ _ _ _ _ _ us hl => match us, hl with | [_], _ => rfl
  have kE' := Bool.and_eq_true_iff.mp kE
  have FE := fun_mk (st := sFeat) lE kE'.1 kE'.2
  have bE := FE.binds (ps := ["bag", "name"]) fun _ _ _ _ _ _ us hl => match us, hl with | [_, _], _ => rfl
  have kN1' := Bool.and_eq_true_iff.mp kN1
  have FN1 := fun_mk (st := sIsName) lN1 kN1'.1 kN1'.2
  have bN1 := FN1.binds (ps := ["thing"]) fun _ _ _ _ _ _ us hl => match us, hl with | [_], _ => rfl
  have kN2' := Bool.and_eq_true_iff.mp kN2
  have FN2 := fun_mk (st := sTold) lN2 kN2'.1 kN2'.2
  have bN2 := FN2.binds (ps := ["text"]) fun _ _ _ _ _ _ us hl => match us, hl with | [_], _ => rfl
  have kN3' := Bool.and_eq_true_iff.mp kN3
  have FN3 := fun_mk (st := sShown) lN3 kN3'.1 kN3'.2
  have bN3 := FN3.binds (ps := ["word"]) fun _ _ _ _ _ _ us hl => match us, hl with | [_], _ => rfl
  have kN4' := Bool.and_eq_true_iff.mp kN4
  have FN4 := fun_mk (st := sLot) lN4 kN4'.1 kN4'.2
  have bN4 := FN4.binds (ps := ["thing"]) fun _ _ _ _ _ _ us hl => match us, hl with | [_], _ => rfl
  have kN5' := Bool.and_eq_true_iff.mp kN5
  have FN5 := fun_mk (st := sAll) lN5 kN5'.1 kN5'.2
  have bN5 := FN5.binds (ps := ["thing", "test"]) fun _ _ _ _ _ _ us hl => match us, hl with | [_, _], _ => rfl
  have kN6' := Bool.and_eq_true_iff.mp kN6
  have FN6 := fun_mk (st := sAscd) lN6 kN6'.1 kN6'.2
  have bN6 := FN6.binds (ps := ["row"]) fun _ _ _ _ _ _ us hl => match us, hl with | [_], _ => rfl
  have kS1' := Bool.and_eq_true_iff.mp kS1
  have FS1 := fun_mk (st := sLock) lS1 kS1'.1 kS1'.2
  have bS1 := FS1.binds (ps := ["lock"]) fun _ _ _ _ _ _ us hl => match us, hl with | [_], _ => rfl
  have kS2' := Bool.and_eq_true_iff.mp kS2
  have FS2 := fun_mk (st := sHeld) lS2 kS2'.1 kS2'.2
  have bS2 := FS2.binds (ps := ["words"]) fun _ _ _ _ _ _ us hl => match us, hl with | [_], _ => rfl
  have kS3' := Bool.and_eq_true_iff.mp kS3
  have FS3 := fun_mk (st := sLine) lS3 kS3'.1 kS3'.2
  have bS3 := FS3.binds (ps := ["name", "held"]) fun _ _ _ _ _ _ us hl => match us, hl with | [_, _], _ => rfl
  have kS4' := Bool.and_eq_true_iff.mp kS4
  have FS4 := fun_mk (st := sFts) lS4 kS4'.1 kS4'.2
  have bS4 := FS4.binds (ps := ["word", "features"]) fun _ _ _ _ _ _ us hl => match us, hl with | [_, _], _ => rfl
  have kS5' := Bool.and_eq_true_iff.mp kS5
  have FS5 := fun_mk (st := sShow) lS5 kS5'.1 kS5'.2
  have bS5 := FS5.binds (ps := ["version"]) fun _ _ _ _ _ _ us hl => match us, hl with | [_], _ => rfl
  have kL1' := Bool.and_eq_true_iff.mp kL1
  have FL1 := fun_mk (st := sLName) lL1 kL1'.1 kL1'.2
  have bL1 := FL1.binds (ps := ["thing"]) fun _ _ _ _ _ _ us hl => match us, hl with | [_], _ => rfl
  have kL2' := Bool.and_eq_true_iff.mp kL2
  have FL2 := fun_mk (st := sNumb) lL2 kL2'.1 kL2'.2
  have bL2 := FL2.binds (ps := ["text"]) fun _ _ _ _ _ _ us hl => match us, hl with | [_], _ => rfl
  have kL3' := Bool.and_eq_true_iff.mp kL3
  have FL3 := fun_mk (st := sLIsVer) lL3 kL3'.1 kL3'.2
  have bL3 := FL3.binds (ps := ["thing"]) fun _ _ _ _ _ _ us hl => match us, hl with | [_], _ => rfl
  have kL4' := Bool.and_eq_true_iff.mp kL4
  have FL4 := fun_mk (st := sInteger) lL4 kL4'.1 kL4'.2
  have bL4 := FL4.binds (ps := ["thing"]) fun _ _ _ _ _ _ us hl => match us, hl with | [_], _ => rfl
  have kL5' := Bool.and_eq_true_iff.mp kL5
  have FL5 := fun_mk (st := sLText) lL5 kL5'.1 kL5'.2
  have bL5 := FL5.binds (ps := ["lock"]) fun _ _ _ _ _ _ us hl => match us, hl with | [_], _ => rfl
  have kL6' := Bool.and_eq_true_iff.mp kL6
  have FL6 := fun_mk (st := sSaid) lL6 kL6'.1 kL6'.2
  have bL6 := FL6.binds (ps := ["version"]) fun _ _ _ _ _ _ us hl => match us, hl with | [_], _ => rfl
  have kB' := Bool.and_eq_true_iff.mp kB
  have FB := fun_mk (st := sBag) lB kB'.1 kB'.2
  have bB := FB.binds (ps := ["script"]) fun _ _ _ _ _ _ us hl => match us, hl with | [_], _ => rfl
  have kNm' := Bool.and_eq_true_iff.mp kNm
  have FNm := fun_mk (st := sNames) lNm kNm'.1 kNm'.2
  have bNm := FNm.binds (ps := ["many"]) fun _ _ _ _ _ _ us hl => match us, hl with | [_], _ => rfl
  have kA' := Bool.and_eq_true_iff.mp kA
  have FA := fun_mk (st := sAny) lA kA'.1 kA'.2
  have bA := FA.binds (ps := ["bag", "names"]) fun _ _ _ _ _ _ us hl => match us, hl with | [_, _], _ => rfl
  have kAl' := Bool.and_eq_true_iff.mp kAl
  have FAl := fun_mk (st := sAlike) lAl kAl'.1 kAl'.2
  have bAl := FAl.binds (ps := ["found", "due"]) fun _ _ _ _ _ _ us hl => match us, hl with | [_, _], _ => rfl
  have kAs' := Bool.and_eq_true_iff.mp kAs
  have FAs := fun_mk (st := sAsc) lAs kAs'.1 kAs'.2
  have bAs := FAs.binds (ps := ["found"]) fun _ _ _ _ _ _ us hl => match us, hl with | [_], _ => rfl
  have kHe' := Bool.and_eq_true_iff.mp kHe
  have FHe := fun_mk (st := sHeard) lHe kHe'.1 kHe'.2
  have bHe := FHe.binds (ps := ["thing"]) fun _ _ _ _ _ _ us hl => match us, hl with | [_], _ => rfl
  have kRd' := Bool.and_eq_true_iff.mp kRd
  have FRd := fun_mk (st := sRdL) lRd kRd'.1 kRd'.2
  have bRd := FRd.binds (ps := ["text"]) fun _ _ _ _ _ _ us hl => match us, hl with | [_], _ => rfl
  have kLr' := Bool.and_eq_true_iff.mp kLr
  have FLr := fun_mk (st := sLRead) lLr kLr'.1 kLr'.2
  have bLr := FLr.binds (ps := ["text"]) fun _ _ _ _ _ _ us hl => match us, hl with | [_], _ => rfl
  have kBl' := Bool.and_eq_true_iff.mp kBl
  have FBl := fun_mk (st := sBLine) lBl kBl'.1 kBl'.2
  have bBl := FBl.binds (ps := ["bag", "line"]) fun _ _ _ _ _ _ us hl => match us, hl with | [_, _], _ => rfl
  have kBt' := Bool.and_eq_true_iff.mp kBt
  have FBt := fun_mk (st := sBText) lBt kBt'.1 kBt'.2
  have bBt := FBt.binds (ps := ["bag", "text"]) fun _ _ _ _ _ _ us hl => match us, hl with | [_, _], _ => rfl
  have kOd' := Bool.and_eq_true_iff.mp kOd
  have FOd := fun_mk (st := sOdd) lOd kOd'.1 kOd'.2
  have bOd := FOd.binds (ps := ["bag"]) fun _ _ _ _ _ _ us hl => match us, hl with | [_], _ => rfl
  have kW' := Bool.and_eq_true_iff.mp kW
  have FW := fun_mk (st := sLaw) lW kW'.1 kW'.2
  have bW := FW.binds (ps := ["script"]) fun _ _ _ _ _ _ us hl => match us, hl with | [_], _ => rfl
  simp only [Bool.and_eq_true, beq_iff_eq] at BX
  obtain ⟨⟨⟨⟨⟨⟨⟨⟨⟨⟨w1, w2⟩, w3⟩, w4⟩, w5⟩, w6⟩, w7⟩, w8⟩, w9⟩, w10⟩, w11⟩ := BX
  have FIn := fun_mk (st := sInitW) mIn w9 w8
  have bIn := FIn.binds (ps := ["self", "place"]) fun _ _ _ _ _ _ us hl => match us, hl with | [_, _], _ => rfl
  have D : Drw K mg fT fO fM fV fE _ _ _ _ _ := ⟨FT, FO, FM, FV, FE, bT, bO, bM, bV, bE, PySem.W.mg_of X G gT, PySem.W.mg_of X G gO, PySem.W.mg_of X G gM, PySem.W.mg_of X G gV, PySem.W.mg_of X G gE, (nn "int" (by decide +kernel)), (nn "len" (by decide +kernel)), (nn "range" (by decide +kernel)), (nn "tuple" (by decide +kernel)), (nn "sorted" (by decide +kernel)), (nn "set" (by decide +kernel)), (nn "dict" (by decide +kernel)), (nn "list" (by decide +kernel))⟩
  have N : Pn K mg fN1 fN2 fN3 fN4 fN5 fN6 _ _ _ _ _ _ tk20 tkLt tkNz tk6 tkFg := ⟨FN1, bN1, PySem.W.mg_of X G gN1, FN2, bN2, PySem.W.mg_of X G gN2, FN3, bN3, PySem.W.mg_of X G gN3, FN4, bN4, PySem.W.mg_of X G gN4, FN5, bN5, PySem.W.mg_of X G gN5, FN6, bN6, PySem.W.mg_of X G gN6, PySem.W.mg_of X G q20, PySem.W.mg_of X G qLt, PySem.W.mg_of X G qNz, PySem.W.mg_of X G q6, PySem.W.mg_of X G qFg, (nn "isinstance" (by decide +kernel)), (nn "str" (by decide +kernel)), (nn "len" (by decide +kernel)), (nn "all" (by decide +kernel)), (nn "tuple" (by decide +kernel)), (nn "range" (by decide +kernel)), (nn "int" (by decide +kernel))⟩
  have S : Ps K mg fS1 fS2 fS3 fS4 fS5 _ _ _ _ _ := ⟨FS1, bS1, PySem.W.mg_of X G gS1, FS2, bS2, PySem.W.mg_of X G gS2, FS3, bS3, PySem.W.mg_of X G gS3, FS4, bS4, PySem.W.mg_of X G gS4, FS5, bS5, PySem.W.mg_of X G gS5, (nn "sorted" (by decide +kernel))⟩
  have L : Pl K mg fL1 fL2 fL3 fL4 fL5 fL6 _ _ _ _ _ _ := ⟨FL1, bL1, PySem.W.mg_of X G gL1, FL2, bL2, PySem.W.mg_of X G gL2, FL3, bL3, PySem.W.mg_of X G gL3, FL4, bL4, PySem.W.mg_of X G gL4, FL5, bL5, PySem.W.mg_of X G gL5, FL6, bL6, PySem.W.mg_of X G gL6, (nn "isinstance" (by decide +kernel)), (nn "str" (by decide +kernel)), (nn "len" (by decide +kernel)), (nn "tuple" (by decide +kernel)), (nn "int" (by decide +kernel)), (nn "bool" (by decide +kernel)), (nn "sorted" (by decide +kernel)), (nn "set" (by decide +kernel)), (nn "list" (by decide +kernel)), (nn "dict" (by decide +kernel))⟩
  have X1 : Ex K mg cX fIn _ := ⟨PySem.W.mg_of X G ncX, ⟨⟨_, _, _, _, _, _, _, _, _, _, _, _, _, _, _, xX, w5⟩, w4, w3, w2, w1⟩, jX, w7, w6, FIn, bIn⟩
  have X2 : Ey K mg cX cP := ⟨xfB_ok w10, w6, w11, PySem.W.mg_of X G ncP⟩
  simp only [Bool.and_eq_true, beq_iff_eq] at BP
  obtain ⟨⟨⟨⟨⟨⟨⟨⟨⟨p1, p2⟩, p3⟩, p4⟩, p5⟩, p6⟩, p7⟩, p8⟩, p9⟩, p10⟩ := BP
  have T : Lx K mg fB fNm fA fAl fAs fHe fRd fLr fBl fBt fOd cP _ _ _ _ _ _ _ _ _ _ _ := ⟨FB, bB, PySem.W.mg_of X G gB, FNm, bNm, PySem.W.mg_of X G gNm, FA, bA, PySem.W.mg_of X G gA, FAl, bAl, PySem.W.mg_of X G gAl, FAs, bAs, PySem.W.mg_of X G gAs, FHe, bHe, PySem.W.mg_of X G gHe, FRd, bRd, PySem.W.mg_of X G gRd, FLr, bLr, PySem.W.mg_of X G gLr, FBl, bBl, PySem.W.mg_of X G gBl, FBt, bBt, PySem.W.mg_of X G gBt, FOd, bOd, PySem.W.mg_of X G gOd, (nn "repr" (by decide +kernel)), (nn "abs" (by decide +kernel)), PySem.W.mg_of X G ncP, eP, p1, ⟨p2, p3, p4, p5, p6, p7, p8, p9⟩, p10⟩
  exact ⟨PySem.W.fnOf "law" "law" (defArgs sLaw) (defBody sLaw) (defScope sLaw) .none kVW dcW pmW anW cdW ctW, fun s v => .of_eq rfl, fun base _ _ => ok_law FW D N S L X1 X2 T⟩
end V9
open PySem PySem.W PyProof.Rows
set_option maxHeartbeats 0 in
theorem PySem.Challenge.cw_packsworn_k49_locks_shown_and_read_holds : PySem.Challenge.rw_packsworn_k49_locks_shown_and_read.Holds := by
  w_on; o_law; k_head; (case hw => w_witness2)
  k_fill
  refine V9.walk_of0 (l := PySem.Challenge.rw_packsworn_k49_locks_shown_and_read) (n := 63) (k := 9) (x := "script") (sp := fun K => V9.spLaw K) rfl (by decide) rfl ⟨rfl, by decide, by decide⟩ (fun w h Y => PySem.W.kIn_of Y) ?F (fun _ _ a ns hl _ hS => ⟨a, ns, rfl, hS, hl, fun _ => rfl⟩)
  case F =>
    intro w mg fa h KX G hmg
    refine' V9.all_mk KX G hmg ?ncX ?ncP ?xX ?jX ?mIn ?gT ?gO ?gM ?gV ?gE ?gN1 ?gN2 ?gN3 ?gN4 ?gN5 ?gN6 ?gS1 ?gS2 ?gS3 ?gS4 ?gS5 ?gL1 ?gL2 ?gL3 ?gL4 ?gL5 ?gL6 ?gB ?gNm ?gA ?gAl ?gAs ?gHe ?gRd ?gLr ?gBl ?gBt ?gOd ?gW ?lT ?lO ?lM ?lV ?lE ?lN1 ?lN2 ?lN3 ?lN4 ?lN5 ?lN6 ?lS1 ?lS2 ?lS3 ?lS4 ?lS5 ?lL1 ?lL2 ?lL3 ?lL4 ?lL5 ?lL6 ?lB ?lNm ?lA ?lAl ?lAs ?lHe ?lRd ?lLr ?lBl ?lBt ?lOd ?lW ?BX ?q20 ?qLt ?qNz ?q6 ?qFg ?eP ?BP ?kT ?kO ?kM ?kV ?kE ?kN1 ?kN2 ?kN3 ?kN4 ?kN5 ?kN6 ?kS1 ?kS2 ?kS3 ?kS4 ?kS5 ?kL1 ?kL2 ?kL3 ?kL4 ?kL5 ?kL6 ?kB ?kNm ?kA ?kAl ?kAs ?kHe ?kRd ?kLr ?kBl ?kBt ?kOd ?kW ?BN
    (case ncX => first | k_is | k_exc | kernel_rfl)
    (case ncP => first | k_is | k_exc | kernel_rfl)
    (case xX => first | k_is | k_exc | kernel_rfl)
    (case jX => first | k_is | k_exc | kernel_rfl)
    (case mIn => first | k_is | k_exc | kernel_rfl)
    (case gT => first | k_is | k_exc | kernel_rfl)
    (case gO => first | k_is | k_exc | kernel_rfl)
    (case gM => first | k_is | k_exc | kernel_rfl)
    (case gV => first | k_is | k_exc | kernel_rfl)
    (case gE => first | k_is | k_exc | kernel_rfl)
    (case gN1 => first | k_is | k_exc | kernel_rfl)
    (case gN2 => first | k_is | k_exc | kernel_rfl)
    (case gN3 => first | k_is | k_exc | kernel_rfl)
    (case gN4 => first | k_is | k_exc | kernel_rfl)
    (case gN5 => first | k_is | k_exc | kernel_rfl)
    (case gN6 => first | k_is | k_exc | kernel_rfl)
    (case gS1 => first | k_is | k_exc | kernel_rfl)
    (case gS2 => first | k_is | k_exc | kernel_rfl)
    (case gS3 => first | k_is | k_exc | kernel_rfl)
    (case gS4 => first | k_is | k_exc | kernel_rfl)
    (case gS5 => first | k_is | k_exc | kernel_rfl)
    (case gL1 => first | k_is | k_exc | kernel_rfl)
    (case gL2 => first | k_is | k_exc | kernel_rfl)
    (case gL3 => first | k_is | k_exc | kernel_rfl)
    (case gL4 => first | k_is | k_exc | kernel_rfl)
    (case gL5 => first | k_is | k_exc | kernel_rfl)
    (case gL6 => first | k_is | k_exc | kernel_rfl)
    (case gB => first | k_is | k_exc | kernel_rfl)
    (case gNm => first | k_is | k_exc | kernel_rfl)
    (case gA => first | k_is | k_exc | kernel_rfl)
    (case gAl => first | k_is | k_exc | kernel_rfl)
    (case gAs => first | k_is | k_exc | kernel_rfl)
    (case gHe => first | k_is | k_exc | kernel_rfl)
    (case gRd => first | k_is | k_exc | kernel_rfl)
    (case gLr => first | k_is | k_exc | kernel_rfl)
    (case gBl => first | k_is | k_exc | kernel_rfl)
    (case gBt => first | k_is | k_exc | kernel_rfl)
    (case gOd => first | k_is | k_exc | kernel_rfl)
    (case gW => first | k_is | k_exc | kernel_rfl)
    (case lT => first | k_is | k_exc | kernel_rfl)
    (case lO => first | k_is | k_exc | kernel_rfl)
    (case lM => first | k_is | k_exc | kernel_rfl)
    (case lV => first | k_is | k_exc | kernel_rfl)
    (case lE => first | k_is | k_exc | kernel_rfl)
    (case lN1 => first | k_is | k_exc | kernel_rfl)
    (case lN2 => first | k_is | k_exc | kernel_rfl)
    (case lN3 => first | k_is | k_exc | kernel_rfl)
    (case lN4 => first | k_is | k_exc | kernel_rfl)
    (case lN5 => first | k_is | k_exc | kernel_rfl)
    (case lN6 => first | k_is | k_exc | kernel_rfl)
    (case lS1 => first | k_is | k_exc | kernel_rfl)
    (case lS2 => first | k_is | k_exc | kernel_rfl)
    (case lS3 => first | k_is | k_exc | kernel_rfl)
    (case lS4 => first | k_is | k_exc | kernel_rfl)
    (case lS5 => first | k_is | k_exc | kernel_rfl)
    (case lL1 => first | k_is | k_exc | kernel_rfl)
    (case lL2 => first | k_is | k_exc | kernel_rfl)
    (case lL3 => first | k_is | k_exc | kernel_rfl)
    (case lL4 => first | k_is | k_exc | kernel_rfl)
    (case lL5 => first | k_is | k_exc | kernel_rfl)
    (case lL6 => first | k_is | k_exc | kernel_rfl)
    (case lB => first | k_is | k_exc | kernel_rfl)
    (case lNm => first | k_is | k_exc | kernel_rfl)
    (case lA => first | k_is | k_exc | kernel_rfl)
    (case lAl => first | k_is | k_exc | kernel_rfl)
    (case lAs => first | k_is | k_exc | kernel_rfl)
    (case lHe => first | k_is | k_exc | kernel_rfl)
    (case lRd => first | k_is | k_exc | kernel_rfl)
    (case lLr => first | k_is | k_exc | kernel_rfl)
    (case lBl => first | k_is | k_exc | kernel_rfl)
    (case lBt => first | k_is | k_exc | kernel_rfl)
    (case lOd => first | k_is | k_exc | kernel_rfl)
    (case lW => first | k_is | k_exc | kernel_rfl)
    (case BX => first | k_is | k_exc | kernel_rfl)
    (case q20 => first | k_is | k_exc | kernel_rfl)
    (case qLt => first | k_is | k_exc | kernel_rfl)
    (case qNz => first | k_is | k_exc | kernel_rfl)
    (case q6 => first | k_is | k_exc | kernel_rfl)
    (case qFg => first | k_is | k_exc | kernel_rfl)
    (case eP => first | k_is | k_exc | kernel_rfl)
    (case BP => first | k_is | k_exc | kernel_rfl)
    (case kT => first | k_is | k_exc | kernel_rfl)
    (case kO => first | k_is | k_exc | kernel_rfl)
    (case kM => first | k_is | k_exc | kernel_rfl)
    (case kV => first | k_is | k_exc | kernel_rfl)
    (case kE => first | k_is | k_exc | kernel_rfl)
    (case kN1 => first | k_is | k_exc | kernel_rfl)
    (case kN2 => first | k_is | k_exc | kernel_rfl)
    (case kN3 => first | k_is | k_exc | kernel_rfl)
    (case kN4 => first | k_is | k_exc | kernel_rfl)
    (case kN5 => first | k_is | k_exc | kernel_rfl)
    (case kN6 => first | k_is | k_exc | kernel_rfl)
    (case kS1 => first | k_is | k_exc | kernel_rfl)
    (case kS2 => first | k_is | k_exc | kernel_rfl)
    (case kS3 => first | k_is | k_exc | kernel_rfl)
    (case kS4 => first | k_is | k_exc | kernel_rfl)
    (case kS5 => first | k_is | k_exc | kernel_rfl)
    (case kL1 => first | k_is | k_exc | kernel_rfl)
    (case kL2 => first | k_is | k_exc | kernel_rfl)
    (case kL3 => first | k_is | k_exc | kernel_rfl)
    (case kL4 => first | k_is | k_exc | kernel_rfl)
    (case kL5 => first | k_is | k_exc | kernel_rfl)
    (case kL6 => first | k_is | k_exc | kernel_rfl)
    (case kB => first | k_is | k_exc | kernel_rfl)
    (case kNm => first | k_is | k_exc | kernel_rfl)
    (case kA => first | k_is | k_exc | kernel_rfl)
    (case kAl => first | k_is | k_exc | kernel_rfl)
    (case kAs => first | k_is | k_exc | kernel_rfl)
    (case kHe => first | k_is | k_exc | kernel_rfl)
    (case kRd => first | k_is | k_exc | kernel_rfl)
    (case kLr => first | k_is | k_exc | kernel_rfl)
    (case kBl => first | k_is | k_exc | kernel_rfl)
    (case kBt => first | k_is | k_exc | kernel_rfl)
    (case kOd => first | k_is | k_exc | kernel_rfl)
    (case kW => first | k_is | k_exc | kernel_rfl)
    (case BN => first | k_is | k_exc | kernel_rfl)
