import PyProof.Rows.All
import Wide.All
import OpenK.AllK
import Wide.FinOn
import PyProof.ReprReads
import PyProof.FitsInt
import KE.KExcIs
import HandS.ForMost
import HandS.ForExc
import HandS.ExcInit
import HandS.ExcOwn
import HandS.ExcValue
import HandS.DeepEq
import HandS.IsInst
import HandS.TupAny
import HandS.Conv
import HandS.Style
import HandS.FStrTup
import HandS.Codes
import PyProof.Rows.ReprOcc
import PyProof.CallFns
import HandS.Walk
import HandS.Text
import HandS.TupMul
import HandS.FltList
import HandS.TupSets
import PyProof.Rows.StrMul
import PyProof.Rows.StrJoinRep
import HandS.WordsExc
import HandS.Small
import HandS.TryMany
import HandS.Lambda
import HandS.ExcField
import HandS.EndTab
import HandS.Replace
import PySem.Challenge.RW_packsworn_k01_versions_shown_and_raised
set_option Elab.async false
set_option linter.all false
set_option maxRecDepth 100000
set_option maxHeartbeats 8000000
/-! What a value prints as, over the abstract heap: one relation over lists of values. -/
namespace V1
open PySem PySem.Spec PyProof.Rows L2

/-- the texts that some values print as: depth at most d, the objects as that are met, the texts, what they cost -/
inductive Shw (H : Hp) : List V → Nat → List Addr → List Str → Nat → Prop
  | nil {d : Nat} : Shw H [] d [] [] 0
  | non {vs d as ts c} (r : Shw H vs d as ts c) : Shw H (.non :: vs) d as ("None" :: ts) (10 + c)
  | bl {vs d as ts c} (b : Bool) (r : Shw H vs d as ts c) : Shw H (.bl b :: vs) d as ((if b then "True" else "False" : String) :: ts) (10 + c)
  | int {vs d as ts c} (i : Int) (hi : i.natAbs < 10 ^ 60) (r : Shw H vs d as ts c) : Shw H (.int i :: vs) d as (toString i :: ts) (70 + c)
  | str {vs d as ts c} (x : Str) (hx : x.length ≤ 100) (hc : ∀ k ∈ x.cps.toList, k < 16 ^ 8) (r : Shw H vs d as ts c) : Shw H (.str x :: vs) d as (reprText x :: ts) (1010 + c)
  | lst {vs d as ts c a xs bs us e} (h : H a = some (.lst xs)) (q : Shw H xs d bs us e) (hn : a ∉ bs) (r : Shw H vs (d + 1) as ts c) : Shw H (.ref a :: vs) (d + 1) ((a :: bs) ++ as) (listText us :: ts) (10 + e + c)
  | tup {vs d as ts c a xs bs us e} (h : H a = some (.tup xs)) (q : Shw H xs d bs us e) (hn : a ∉ bs) (r : Shw H vs (d + 1) as ts c) : Shw H (.ref a :: vs) (d + 1) ((a :: bs) ++ as) (tupleText us :: ts) (10 + e + c)
  | dic {vs d as ts c a bs us e} (ks : List (Str × V)) (h : H a = some (.dK (ks.map fun p => (Sum.inr p.1, p.2)))) (hk : ∀ p ∈ ks, p.1.length ≤ 100 ∧ ∀ k ∈ p.1.cps.toList, k < 16 ^ 8)
      (q : Shw H (ks.map (·.2)) d bs us e) (hn : a ∉ bs) (r : Shw H vs (d + 1) as ts c) :
      Shw H (.ref a :: vs) (d + 1) ((a :: bs) ++ as) (dictText (List.zipWith (fun p u => reprText p.1 ++ ": " ++ u) ks us) :: ts) (10 + 1010 * ks.length + e + c)

variable {H H' : Hp} {vs ws : List V} {d d' : Nat} {as bs : List Addr} {ts us : List Str} {c e : Nat}
theorem Shw.len (h : Shw H vs d as ts c) : ts.length = vs.length := by
  induction h with
  | nil => rfl
  | _ => simp_all
theorem Shw.there (h : Shw H vs d as ts c) : ∀ b ∈ as, ∃ o, H b = some o := by
  induction h with
  | nil => intro b hb; cases hb
  | non r ih => exact ih
  | bl b r ih => exact ih
  | int i hi r ih => exact ih
  | str x hx hc r ih => exact ih
  | lst h q hn r i1 i2 =>
    intro b hb
    rcases List.mem_append.mp hb with z | z
    · rcases List.mem_cons.mp z with y | y
      · exact ⟨_, y ▸ h⟩
      · exact i1 b y
    · exact i2 b z
  | tup h q hn r i1 i2 =>
    intro b hb
    rcases List.mem_append.mp hb with z | z
    · rcases List.mem_cons.mp z with y | y
      · exact ⟨_, y ▸ h⟩
      · exact i1 b y
    · exact i2 b z
  | dic ks h hk q hn r i1 i2 =>
    intro b hb
    rcases List.mem_append.mp hb with z | z
    · rcases List.mem_cons.mp z with y | y
      · exact ⟨_, y ▸ h⟩
      · exact i1 b y
    · exact i2 b z
theorem Shw.fresh {p : Addr} (h : Shw H vs d as ts c) (hp : H p = none) : p ∉ as := fun hm => by
  obtain ⟨o, e⟩ := h.there p hm
  rw [hp] at e; cases e
/-- what is kept at the objects that are met -/
theorem Shw.keep (h : Shw H vs d as ts c) : (∀ b ∈ as, ∀ o, H b = some o → H' b = some o) → Shw H' vs d as ts c := by
  induction h with
  | nil => intro _; exact .nil
  | non r ih => intro k; exact .non (ih k)
  | bl b r ih => intro k; exact .bl b (ih k)
  | int i hi r ih => intro k; exact .int i hi (ih k)
  | str x hx hc r ih => intro k; exact .str x hx hc (ih k)
  | lst h q hn r i1 i2 =>
    intro k
    exact .lst (k _ (List.mem_append_left _ List.mem_cons_self) _ h) (i1 fun b hb => k b (List.mem_append_left _ (List.mem_cons_of_mem _ hb))) hn (i2 fun b hb => k b (List.mem_append_right _ hb))
  | tup h q hn r i1 i2 =>
    intro k
    exact .tup (k _ (List.mem_append_left _ List.mem_cons_self) _ h) (i1 fun b hb => k b (List.mem_append_left _ (List.mem_cons_of_mem _ hb))) hn (i2 fun b hb => k b (List.mem_append_right _ hb))
  | dic ks h hk q hn r i1 i2 =>
    intro k
    exact .dic ks (k _ (List.mem_append_left _ List.mem_cons_self) _ h) hk (i1 fun b hb => k b (List.mem_append_left _ (List.mem_cons_of_mem _ hb))) hn (i2 fun b hb => k b (List.mem_append_right _ hb))
theorem Shw.up1 (h : Shw H vs d as ts c) : Shw H vs (d + 1) as ts c := by
  induction h with
  | nil => exact .nil
  | non r ih => exact .non ih
  | bl b r ih => exact .bl b ih
  | int i hi r ih => exact .int i hi ih
  | str x hx hc r ih => exact .str x hx hc ih
  | lst h q hn r i1 i2 => exact .lst h i1 hn i2
  | tup h q hn r i1 i2 => exact .tup h i1 hn i2
  | dic ks h hk q hn r i1 i2 => exact .dic ks h hk i1 hn i2
theorem Shw.up (h : Shw H vs d as ts c) (hd : d ≤ d') : Shw H vs d' as ts c := by
  induction hd with
  | refl => exact h
  | step _ ih => exact ih.up1
/-- one more in front -/
theorem Shw.cons1 {v : V} (h : Shw H [v] d as ts c) : Shw H ws d bs us e → Shw H (v :: ws) d (as ++ bs) (ts ++ us) (c + e) := by
  intro q
  generalize hv : [v] = vs at h
  cases h with
  | nil => cases hv
  | non r => cases hv; cases r; simpa using Shw.non q
  | bl b r => cases hv; cases r; simpa using Shw.bl b q
  | int i hi r => cases hv; cases r; simpa using Shw.int i hi q
  | str x hx hc r => cases hv; cases r; simpa using Shw.str x hx hc q
  | lst h p hn r => cases hv; cases r; simpa using Shw.lst h p hn q
  | tup h p hn r => cases hv; cases r; simpa using Shw.tup h p hn q
  | dic ks h hk p hn r => cases hv; cases r; simpa using Shw.dic ks h hk p hn q
/-- each of them alone -/
theorem Shw.each (h : Shw H vs d as ts c) : ∀ v ∈ vs, ∃ as t e, Shw H [v] d as [t] e ∧ e ≤ c := by
  induction h with
  | nil => intro v hv; cases hv
  | non r ih =>
    intro v hv
    rcases List.mem_cons.mp hv with z | z
    · subst z
      exact ⟨_, _, _, Shw.non Shw.nil, by omega⟩
    · obtain ⟨as, t, e, q, l⟩ := ih v z
      exact ⟨as, t, e, q, by omega⟩
  | bl b r ih =>
    intro v hv
    rcases List.mem_cons.mp hv with z | z
    · subst z
      exact ⟨_, _, _, Shw.bl b Shw.nil, by omega⟩
    · obtain ⟨as, t, e, q, l⟩ := ih v z
      exact ⟨as, t, e, q, by omega⟩
  | int i hi r ih =>
    intro v hv
    rcases List.mem_cons.mp hv with z | z
    · subst z
      exact ⟨_, _, _, Shw.int i hi Shw.nil, by omega⟩
    · obtain ⟨as, t, e, q, l⟩ := ih v z
      exact ⟨as, t, e, q, by omega⟩
  | str x hx hc r ih =>
    intro v hv
    rcases List.mem_cons.mp hv with z | z
    · subst z
      exact ⟨_, _, _, Shw.str x hx hc Shw.nil, by omega⟩
    · obtain ⟨as, t, e, q, l⟩ := ih v z
      exact ⟨as, t, e, q, by omega⟩
  | lst h q hn r i1 i2 =>
    intro v hv
    rcases List.mem_cons.mp hv with z | z
    · subst z
      exact ⟨_, _, _, Shw.lst h q hn Shw.nil, by omega⟩
    · obtain ⟨as, t, e, q, l⟩ := i2 v z
      exact ⟨as, t, e, q, by omega⟩
  | tup h q hn r i1 i2 =>
    intro v hv
    rcases List.mem_cons.mp hv with z | z
    · subst z
      exact ⟨_, _, _, Shw.tup h q hn Shw.nil, by omega⟩
    · obtain ⟨as, t, e, q, l⟩ := i2 v z
      exact ⟨as, t, e, q, by omega⟩
  | dic ks h hk q hn r i1 i2 =>
    intro v hv
    rcases List.mem_cons.mp hv with z | z
    · subst z
      exact ⟨_, _, _, Shw.dic ks h hk q hn Shw.nil, by omega⟩
    · obtain ⟨as, t, e, q, l⟩ := i2 v z
      exact ⟨as, t, e, q, by omega⟩
/-- what a value is of which all this is said -/
theorem Shw.kind {v : V} (h : Shw H [v] d as ts c) : flatB v = true ∨ ∃ a, v = .ref a := by
  generalize hv : [v] = vs at h
  cases h with
  | nil => cases hv
  | non r => cases hv; exact .inl rfl
  | bl b r => cases hv; exact .inl rfl
  | int i hi r => cases hv; exact .inl rfl
  | str x hx hc r => cases hv; exact .inl rfl
  | lst h p hn r => cases hv; exact .inr ⟨_, rfl⟩
  | tup h p hn r => cases hv; exact .inr ⟨_, rfl⟩
  | dic ks h hk p hn r => cases hv; exact .inr ⟨_, rfl⟩
/-- v prints, at depth d at most, at cost B at most -/
def Pt (H : Hp) (d B : Nat) (v : V) : Prop := ∃ as t e, Shw H [v] d as [t] e ∧ e ≤ B
theorem Pt.mono {B B' : Nat} {v : V} (p : Pt H d B v) (hd : d ≤ d') (hB : B ≤ B') : Pt H d' B' v := by
  obtain ⟨as, t, e, q, l⟩ := p
  exact ⟨as, t, e, q.up hd, by omega⟩
theorem Pt.same {B : Nat} {v : V} (p : Pt H d B v) (k : ∀ b o, H b = some o → H' b = some o) : Pt H' d B v := by
  obtain ⟨as, t, e, q, l⟩ := p
  exact ⟨as, t, e, q.keep fun b _ => k b, l⟩
theorem Pt.all {B : Nat} : ∀ {vs : List V}, (∀ v ∈ vs, Pt H d B v) → ∃ as ts e, Shw H vs d as ts e ∧ e ≤ B * vs.length
  | [], _ => ⟨_, _, _, .nil, Nat.zero_le _⟩
  | v :: vs, h => by
    obtain ⟨as, t, e, q, l⟩ := h v List.mem_cons_self
    obtain ⟨bs, us, f, r, m⟩ := Pt.all (vs := vs) fun w hw => h w (List.mem_cons_of_mem _ hw)
    refine ⟨_, _, _, q.cons1 r, ?_⟩
    rw [List.length_cons, Nat.mul_succ]
    omega
theorem Pt.lst {B : Nat} {a : Addr} {xs : List V} (h : H a = some (.lst xs)) (k : ∀ v ∈ xs, ∃ d0, d0 < d ∧ Pt H d0 B v) (hf : ∀ as ts e, Shw H xs (d - 1) as ts e → a ∉ as) (hd : 0 < d) : Pt H d (10 + B * xs.length) (.ref a) := by
  obtain ⟨d0, rfl⟩ : ∃ d0, d = d0 + 1 := ⟨d - 1, by omega⟩
  obtain ⟨as, ts, e, q, l⟩ := Pt.all (H := H) (d := d0) (B := B) (vs := xs) fun v hv => by
    obtain ⟨d1, h1, p⟩ := k v hv
    exact p.mono (by omega) (Nat.le_refl _)
  exact ⟨_, _, _, .lst h q (hf _ _ _ q) .nil, by omega⟩
end V1
namespace V1
open PySem PySem.Spec PyProof.Rows L2
theorem list_len (ts : List Str) : (listText ts).length ≤ piled ts + 2 := by
  cases ts with
  | nil => decide +kernel
  | cons t r =>
    have e0 : (listText (t :: r)).length = (textFrom 1 ((("[" : Str) ++ ("" : String)) ++ t) r).length + 1 := by
      show (textFrom 1 ((("[" : Str) ++ ("" : String)) ++ t) r ++ "]").length = _
      rw [strLen_append]; rfl
    have e1 : ((("[" : Str) ++ ("" : String)) ++ t).length = 1 + t.length := by rw [strLen_append]; rfl
    rw [e0, textFrom_length_pos _ _ _ Nat.one_pos, e1, piled_cons]
    omega
theorem dict_len (ps : List Str) : (dictText ps).length ≤ piled ps + 2 := by
  have e : (dictText ps).length = 1 + (Str.join ", " ps).length + 1 := by
    unfold dictText
    rw [strLen_append, strLen_append]; rfl
  by_cases h : ps = []
  · subst h; decide +kernel
  · have := join_length_add ps h
    omega
theorem zip_len : ∀ (ks : List (Str × V)) (us : List Str), (∀ p ∈ ks, p.1.length ≤ 100 ∧ ∀ k ∈ p.1.cps.toList, k < 16 ^ 8) → ks.length = us.length →
    piled (List.zipWith (fun p u => reprText p.1 ++ ": " ++ u) ks us) ≤ 1010 * ks.length + piled us
  | [], _, _, _ => by simp [piled]
  | _ :: _, [], _, h => by cases h
  | p :: ks, u :: us, hk, hl => by
    have ih := zip_len ks us (fun q hq => hk q (List.mem_cons_of_mem _ hq)) (by simpa using hl)
    obtain ⟨z1, z2⟩ := hk p List.mem_cons_self
    have r := StrLaws.reprText_len p.1 z2
    have e : (reprText p.1 ++ ": " ++ u).length = (reprText p.1).length + 2 + u.length := by
      rw [strLen_append, strLen_append]; rfl
    rw [List.zipWith_cons_cons, piled_cons, piled_cons, e, List.length_cons]
    omega
variable {H H' : Hp} {vs ws : List V} {d d' : Nat} {as bs : List Addr} {ts us : List Str} {c e : Nat}
theorem Shw.cost (h : Shw H vs d as ts c) : piled ts ≤ c := by
  induction h with
  | nil => exact Nat.zero_le _
  | non r ih =>
    rw [piled_cons]
    have : ("None" : Str).length = 4 := by decide +kernel
    omega
  | bl b r ih =>
    rw [piled_cons]
    have : ((if b then "True" else "False" : String) : Str).length ≤ 5 := by cases b <;> decide +kernel
    omega
  | int i hi r ih =>
    rw [piled_cons]
    have q := int_text_length_le10 (k := 60) (by decide) hi
    have : (Str.ofString (toString i)).length = (toString i).length := PySem.ofString_length _
    clear hi
    omega
  | str x hx hc r ih =>
    rw [piled_cons]
    have := StrLaws.reprText_len x hc
    omega
  | lst h q hn r i1 i2 =>
    rw [piled_cons]
    have := list_len ‹_›
    omega
  | tup h q hn r i1 i2 =>
    rw [piled_cons]
    have := fmt_text ‹_›
    omega
  | @dic vs d as ts c a bs us e ks h hk q hn r i1 i2 =>
    rw [piled_cons]
    have z := zip_len ks us hk (by rw [q.len, List.length_map])
    have := dict_len (List.zipWith (fun p u => reprText p.1 ++ ": " ++ u) ks us)
    omega
theorem one_le {t : Str} {ts : List Str} (h : t ∈ ts) : t.length + 2 ≤ piled ts := by
  induction ts with
  | nil => cases h
  | cons u ts ih =>
    rw [piled_cons]
    rcases List.mem_cons.mp h with z | z
    · subst z; omega
    · have := ih z; omega
section
variable {X : Cx} {pins : List (Addr × Obj)} {σ : L2.St} {s : Shared}
theorem kv_vals : ∀ {ks : List (Str × V)} {vs : List (Key × Value)}, KV (ks.map fun p => ((Sum.inr p.1 : Key), p.2)) vs → Vals (ks.map (·.2)) (vs.map (·.2))
  | [], _, h => by cases h; exact .nil
  | p :: ks, _, h => by
    cases h with
    | cons a b => exact .cons a.2 (kv_vals b)
theorem entries {prog : Program} {w : World} {h₀ : Heap} : ∀ (ks : List (Str × V)) (vs : List (Key × Value)) (es : List DictEntry) (us : List Str),
    KV (ks.map fun p => ((Sum.inr p.1 : Key), p.2)) vs → Pairs (mixKind prog w) es vs → (∀ p ∈ ks, p.1.length ≤ 100 ∧ ∀ k ∈ p.1.cps.toList, k < 16 ^ 8) →
    (∀ ws : List Value, Vals (ks.map (·.2)) ws → ReprAllK prog w bs h₀ d ws us) →
    ReprEntriesK prog w bs h₀ d es (List.zipWith (fun p u => reprText p.1 ++ ": " ++ u) ks us)
  | [], _, es, us, hv, hp, _, _ => by
    cases hv
    cases hp
    exact .nil
  | p :: ks, vs, es, us, hv, hp, hk, hr => by
    cases hv with
    | @cons _ q _ vs' h1 h2 =>
      obtain ⟨h1a, h1b⟩ := h1
      cases hp with
      | @cons en _ es' _ hi hj hp' =>
        have h0 := hr (q.2 :: vs'.map (·.2)) (.cons h1b (kv_vals h2))
        cases us with
        | nil => cases h0
        | cons u us =>
          have rest : ∀ ws : List Value, Vals (ks.map (·.2)) ws → ReprAllK prog w bs h₀ d ws us := fun ws hw => by
            have z := hr (q.2 :: ws) (.cons h1b hw)
            cases z with
            | cons _ z2 => exact z2
          have r2 := entries ks vs' es' us h2 hp' (fun x hx => hk x (List.mem_cons_of_mem _ hx)) rest
          obtain ⟨z1, z2⟩ := hk p List.mem_cons_self
          have hkey : ∃ t, en.key = .str p.1 t := by
            obtain ⟨q1, q2⟩ := q
            have e1 : Sum.inr p.1 = q1 := h1a
            subst e1
            obtain ⟨t, e⟩ := Value.isStrOf_shape (x := p.1) (v := en.key) hi
            exact ⟨t, e⟩
          obtain ⟨t, ek⟩ := hkey
          rw [List.zipWith_cons_cons]
          refine .cons (e := en) ?_ ?_ r2
          · rw [ek]
            exact .of_is (ReprIs.str p.1 t (by
              have := StrLaws.reprText_len p.1 z2
              rw [sizeLine_eq]
              omega)) _ _ _
          · rw [hj]
            cases h0 with
            | cons z _ => exact z
theorem Shw.runs (I : Inv X pins σ H s) (h : Shw H vs d as ts c) : c ≤ sizeLine → ∀ ws : List Value, Vals vs ws → ReprAllK X.prog X.w as s.heap d ws ts := by
  induction h with
  | nil =>
    intro _ ws r
    cases r
    exact .nil
  | non r ih =>
    intro hc ws rv
    cases rv with
    | cons r1 r2 =>
      cases (show _ = Value.none from r1)
      exact .cons (.of_is ReprIs.none _ _ _) (ih (by omega) _ r2)
  | bl b r ih =>
    intro hc ws rv
    cases rv with
    | cons r1 r2 =>
      cases (show _ = Value.bool b from r1)
      cases b <;> exact .cons (.of_is (ReprIs.bool _) _ _ _) (ih (by omega) _ r2)
  | int i hi r ih =>
    intro hc ws rv
    cases rv with
    | cons r1 r2 =>
      obtain ⟨t, rfl⟩ := r1
      refine .cons (.of_is (ReprIs.int t ?_) _ _ _) (ih (by omega) _ r2)
      by_cases h0 : i.natAbs = 0
      · rw [h0]; decide
      · exact (Nat.log2_lt h0).mpr (Nat.lt_trans hi (by decide +kernel))
  | str x hx hk r ih =>
    intro hc ws rv
    cases rv with
    | cons r1 r2 =>
      obtain ⟨t, rfl⟩ := r1
      refine .cons (.of_is (ReprIs.str x t ?_) _ _ _) (ih (by omega) _ r2)
      have := StrLaws.reprText_len x hk
      rw [sizeLine_eq]
      omega
  | @lst vs d as ts c a xs bs us e h q hn r i1 i2 =>
    intro hc ws rv
    cases rv with
    | cons r1 r2 =>
      cases (show _ = Value.ref a from r1)
      obtain ⟨_, its, n, rx, hg⟩ := (show ObjOk X.prog X.w H s.heap a (.lst xs) from I.hok a _ h)
      have k := i1 (by omega) its rx
      have k2 := (i2 (by omega) _ r2).more_le (as' := (a :: bs) ++ as) (fun b hb => List.mem_append_right _ hb) (Nat.le_refl _)
      refine .cons ?_ k2
      have one : ReprK X.prog X.w (a :: bs) s.heap (d + 1) (.ref a) (listText us) := by
        cases its with
        | nil =>
          cases k
          exact .listEmpty hg rfl rfl
        | cons y l => exact .list hg rfl rfl hn (by simpa using k.length_eq) fun i z hz => k.item i z (by simpa using hz)
      exact one.more fun b hb => List.mem_append_left _ hb
  | @tup vs d as ts c a xs bs us e h q hn r i1 i2 =>
    intro hc ws rv
    cases rv with
    | cons r1 r2 =>
      cases (show _ = Value.ref a from r1)
      obtain ⟨_, its, rx, ob, hg, hcl, n, hd⟩ := (show ObjOk X.prog X.w H s.heap a (.tup xs) from I.hok a _ h)
      have k := i1 (by omega) its rx
      have k2 := (i2 (by omega) _ r2).more_le (as' := (a :: bs) ++ as) (fun b hb => List.mem_append_right _ hb) (Nat.le_refl _)
      exact .cons ((ReprK.tuple hg hcl hd hn k).more fun b hb => List.mem_append_left _ hb) k2
  | @dic vs d as ts c a bs us e ks h hk q hn r i1 i2 =>
    intro hc ws rv
    cases rv with
    | cons r1 r2 =>
      cases (show _ = Value.ref a from r1)
      obtain ⟨_, hsm, vv, rk, ob, es, ep, hg, hex, hd, _, hp, _⟩ := (show ObjOk X.prog X.w H s.heap a (.dK (ks.map fun p => (Sum.inr p.1, p.2))) from I.hok a _ h)
      have k2 := (i2 (by omega) _ r2).more_le (as' := (a :: bs) ++ as) (fun b hb => List.mem_append_right _ hb) (Nat.le_refl _)
      exact .cons ((ReprK.dict hg hex.1 hd hsm hn (entries ks vv es.toList us rk hp hk fun ws hw => i1 (by omega) ws hw)).more fun b hb => List.mem_append_left _ hb) k2
/-- repr(x), x a list -/
theorem call_reprL (hg : X.A.guards = some []) (hu : X.A.units + 64 < cLine) : CallR X (.builtin "repr") (fun vs H Q => ∃ (p : Addr) (d : Nat) (as : List Addr) (t : Str) (c : Nat), vs = [.ref p] ∧ (∃ xs, H p = some (.lst xs)) ∧ Shw H [.ref p] d as [t] c ∧ d ≤ 60 ∧ c ≤ 16000000 ∧ Q (.str t) H) := by
  intro pins s σ H xs us Q I r h
  obtain ⟨p, d, as, t, c, rfl, ⟨xs, hp⟩, hs, hd, hc, q⟩ := h
  obtain ⟨u, rfl, rfl⟩ := vals1 r
  have hz : sizeLine = 16777216 := sizeLine_eq
  have hcost := hs.cost
  rw [piled_cons] at hcost
  obtain ⟨_, its, n, rx, hgt⟩ := (show ObjOk X.prog X.w H s.heap p (.lst xs) from I.hok p _ hp)
  cases hs with
  | @lst _ d0 _ _ _ _ ys bs ts e hp' q1 hn r1 =>
    cases r1
    rw [hp] at hp'
    cases hp'
    have k := q1.runs I (by omega) its rx
    refine call_repr_slot (T := "list") (idr := "list.__repr__") (by omega) ⟨_, hgt, rfl⟩ PySem.F.slot_list_repr.toG ?_
    cases its with
    | nil =>
      cases k
      exact call_list_repr_empty ⟨_, hgt, rfl⟩ hgt rfl ⟨_, _, rfl, .str _, H, I.tok _, ⟨_, rfl⟩, q⟩
    | cons y l =>
      refine call_list_reprK (g := []) hgt rfl rfl hn (by simpa using k.length_eq) (fun i z hz => k.item i z (by simpa using hz)) hg (fun b _ => Clear.nil b) ?_ (fun _ _ e => e) (fun h' u tk hk => ?_) (by omega)
      · show X.A.units + 1 + (d0 + 1) < cLine
        omega
      · exact ⟨_, _, rfl, .str _, H, I.kept (t' := tk) hk, ⟨_, rfl⟩, q⟩
  | tup hp' => rw [hp] at hp'; cases hp'
  | dic ks hp' => rw [hp] at hp'; cases hp'
end
end V1
/-! Promises of defs that are called where nothing is being printed (guards empty). -/
namespace V1
open PySem PySem.Spec PyProof.Rows L2
/-- a def's promise, wherever it is called with nothing being printed -/
structure Ok0 (P : Program) (w : World) (K : PySem.W.Frag) (mg : PySem.Str → Option Value) (base : Heap) (k : Nat)
    (f : Addr) (fd : FuncData) (ps : List PySem.Str) (sp : Sp) : Prop where
  cnt : ∀ vs H Q E, sp vs H Q E → vs.length = ps.length
  go : ∀ (A : Around) (outer : List Env) (s : Shared) (H : Hp) (args : Args) (us : List Value) (vs : List V) (Q : VK) (E : XK),
    A.guards = some [] → Room k A → Env0 P w K mg base A outer s H → BindsTo s fd args (ps.zip us) → Vals vs us → sp vs H Q E →
    codeAny (model P w) A (.call (.ref f) args) (CR CX0 outer P w H s Q E) s
section
variable {P : Program} {w : World} {K : PySem.W.Frag} {mg : PySem.Str → Option Value} {base : Heap} {k : Nat} {f : Addr} {fd : FuncData}
theorem Ok0.mk_of {x qual : PySem.Str} {st : Stmt} {N ps : List PySem.Str} {sp : Sp} (F : Fun K x qual st f fd) (S : FnScope N ps (defScope st))
    (cnt : ∀ vs H Q E, sp vs H Q E → vs.length = ps.length)
    (body : ∀ (cdv : Value) (A : Around) (outer : List Env) (s : Shared) (H : Hp) (vs : List V) (Q : VK) (E : XK), A.guards = some [] →
      Room k (A.deeper (envOfC qual (defScope st) s.heap.objs.size f cdv)) → sp vs H Q E →
      ∃ t, PSs (cxOf CX0 P w K mg base N qual (defScope st) f cdv A outer s H E).nox (defBody st) t ∧ t { nx := fun _ H' => Q .non H', rt := Q } (start N vs) H) :
    Ok0 P w K mg base (k + 1) f fd ps sp := by
  obtain ⟨oc, od, kV, doc, pm, an, cdv, ct, osl, rfl, lk, hcd⟩ := F.ex
  refine ⟨cnt, ?_⟩
  intro A outer s H args us vs Q E hgd hr e0 hb r hsp
  have kept : ∀ b o, base.get? b = some o → s.heap.get? b = some o := fun b o e => (e0.bs b o e).1
  have KX : K.In s.heap := e0.mod.kin.keeps kept
  have par : ∀ y ∈ ps.zip us, (defScope st).names.lookup y.1 = some .local ∨
      ((defScope st).names.lookup y.1 = some .cell ∧ ((cellsFrom (s.heap.objs.size + 1) (defScope st).names []).lookup y.1).isSome = true) := by
    rintro ⟨n, v⟩ hy
    rcases S.par n (List.of_mem_zip hy).1 with q | q
    · exact .inl q
    · exact .inr ⟨q, PySem.W.cellsFrom_some _ _ _ (.inl q)⟩
  have entry := hb
  refine codeAny_call_function hr.depth (KX _ _ lk) rfl S.co S.gen rfl (PySem.W.codeRec_of KX hcd) (entry _ _ _ _ ?_)
  refine wpAny_newFunctionEnv_cells S.kind par ?_
  intro env he s1 x
  subst he
  refine ⟨(e0.mod.nolimit.keeps kept).keeps x.toInCall.keep, codeAny_func ?_⟩
  obtain ⟨t, ht, hq⟩ := body cdv A outer s H vs Q E hgd (hr.deeper _) hsp
  have I := inv_start (CX := CX0) (E := E) S hr.hd e0 (cnt _ _ _ _ hsp) r x
  have fin : ∀ {σ' : L2.St} {s' : Shared} {H' : Hp} {v : V} {u : Value},
      Inv (cxOf CX0 P w K mg base N qual (defScope st) f cdv A outer s H E) [] σ' H' s' → RelV v u → Q v H' → CE outer P w H s Q u s' := by
    intro σ' s' H' v u J rv q
    exact ⟨v, H', J.os, J.bare, J.base, J.hok, rv, q⟩
  refine wpAny_mono (ht.nox.run [] s1 (start N vs) H _ I hq) ?_ (fun e s' hs => hs)
  intro fl s' hs
  cases fl with
  | ret u => obtain ⟨v, σ', H', J, rv, q⟩ := hs; exact fin J rv q
  | next => obtain ⟨σ', H', J, q⟩ := hs; exact fin (v := V.non) (u := Value.none) J rfl q
  | brk => obtain ⟨_, _, _, q⟩ := hs; exact q.elim
  | cont => obtain ⟨_, _, _, q⟩ := hs; exact q.elim
end
section
variable {X : Cx} {k : Nat} {f : Addr} {fd : FuncData} {ps : List PySem.Str} {sp : Sp} {x : PySem.Str} {p pos : Pos} {e : Expr} {es : List Expr} {t : TA}
/-- f(..) of such a def -/
theorem pe_call00 (F : Ok0 X.prog X.w X.K X.mg X.base k f fd ps sp) (hgd : X.A.guards = some []) (hr : Room k X.A) (hg : Gl X x) (hm : X.mg x = some (.ref f)) (hk : PySem.W.keepIn X.K (.ref f) = true)
    (hb : Binds X.K fd ps []) (ha : PA X (e :: es) t) (hdb : (x == ("__debug__" : PySem.Str)) = false := by decide)
    (he : starEach (e :: es) X.env = (false, eval e X.env) :: starEach es X.env := by rfl) (hpl : (backTo pos (starEach es X.env)).any (·.1) = false := by rfl) :
    PE X (.Call (.Name x p) (e :: es) [] pos) (fun σ H Q => t σ H fun vs H1 => sp vs H1 Q E0) := by
  constructor
  intro pins s σ H Q I h
  refine wpAny_Call_Name_kw (ld_glob I hg hm ?_ hdb)
  refine PySem.W.callWith_K (h₀ := X.base) I.ok.mod.kin hk (thn (ha.run pos pins s σ H _ I h) ?_) he hpl
  rintro us s1 ⟨vs, H1, I1, r, q⟩
  refine ⟨I1.kIn, ?_⟩
  have hl : us.length = ps.length := by rw [← r.length]; exact F.cnt _ _ _ _ q
  have hb1 := hb s1 us I1.kIn (by simpa using hl)
  rw [List.append_nil] at hb1
  refine wpAny_call (codeAny_mono (F.go X.A X.stack s1 H1 ⟨us, []⟩ us vs Q E0 hgd hr I1.env0 hb1 r q) ?_)
  intro r' s' hq
  cases r' with
  | error e => exact hq.elim
  | ok fl =>
    cases fl with
    | ret u => exact I1.after hq
    | next => exact hq.elim
    | brk => exact hq.elim
    | cont => exact hq.elim
end
end V1
/-! The law's own call, from a promise that wants empty guards. -/
namespace V1
open PySem PySem.Spec PyProof.Rows L2
section
variable {P : Program} {w : World} {K : PySem.W.Frag} {mg mb : PySem.Str → Option Value} {k : Nat} {fa a : Addr} {fd : FuncData} {x : PySem.Str} {sp : Sp} {s₁ : Shared} {vs : List Value} {ns : List Int}
/-- from an abstract heap that tracks at most the script -/
theorem law_core {H : Hp} (KX : K.In s₁.heap) (hns : s₁.heap.Ns mainGlobals mg) (hb : s₁.heap.Ns builtinsNs mb) (hbb : ∀ x : PySem.Str, x ≠ "__name__" → mb x = bootBuiltins x) (hlim : s₁.heap.NoLimit) (hg : s₁.gens = #[])
    (ha : s₁.heap.get? a = some { cls := .type "list", data := .seq vs.toArray }) (hr : Room k callerA)
    (F : ∀ base : Heap, K.In base → base.Ns mainGlobals mg → Ok0 P w K mg base k fa fd [x] sp) (hbind : ∀ (s : Shared) (u : Value), BindsTo s fd ⟨[u], []⟩ [(x, u)])
    (hO : Only H) (hsp : sp [.ref a] H (fun v _ => v = .bl true) fun _ _ _ => False) (hok : HOk P w H s₁.heap) (hA : ∀ b, H b ≠ none → b = a) (hK : H a ≠ none → K.lookup a = none) :
    codeAny (model P w) callerA (.call (.ref fa) ⟨[.ref a], []⟩) (fun r s' => r = .ok (.ret (.bool true)) ∧ OldK s₁.heap s'.heap ∧ s'.os = s₁.os ∧ AllBare s'.gens) s₁ := by
  have dictFree : ∀ {b : Addr} {o : Obj} {es : Array DictEntry} {ep : Nat}, s₁.heap.get? b = some o → o.data = .dict es ep → H b = none := by
    intro b o es ep e d
    rcases Option.eq_none_or_eq_some (H b) with q | ⟨u, q⟩
    · exact q
    · have e' := hA b (by rw [q]; simp)
      rw [e', ha] at e
      cases e
      exact absurd (show Data.seq vs.toArray _ = Data.dict es ep from d) (by simp)
  have ns' : ∀ {b : Addr} {m : PySem.Str → Option Value}, s₁.heap.Ns b m → (hidT s₁.heap H).Ns b m := by
    rintro b m ⟨o, es, ep, e, d, r⟩
    exact ⟨o, es, ep, hidT_get e (dictFree e d), d, r⟩
  have kin : K.In (hidT s₁.heap H) := by
    intro b o e
    refine hidT_get (KX b o e) ?_
    rcases Option.eq_none_or_eq_some (H b) with q | ⟨u, q⟩
    · exact q
    · have e' := hA b (by rw [q]; simp)
      rw [e'] at e q
      rw [hK (by rw [q]; simp)] at e
      cases e
  obtain ⟨mc, l1, l2⟩ := hlim
  have M : Mod K mg (hidT s₁.heap H) := ⟨kin, ns' hns, ⟨mb, ns' hb, hbb⟩, ⟨mc, ns' l1, l2⟩⟩
  have e0 : Env0 P w K mg (hidT s₁.heap H) callerA [] s₁ H :=
    { frames := rfl, mod := M, bs := fun b o e => of_hidT e, bsz := Nat.le_of_eq (hidT_size _ _), funs := trivial, frf := fun b hb => (by cases hb), hok := hok, bare := .of_eq hg }
  refine codeAny_mono ((F _ kin (ns' hns)).go callerA [] s₁ H ⟨[.ref a], []⟩ [.ref a] [.ref a] _ _ rfl hr e0 (hbind s₁ (.ref a)) (.cons rfl .nil) hsp) ?_
  intro r s' h
  cases r with
  | error e => exact h.elim
  | ok fl =>
    cases fl with
    | next => exact h.elim
    | brk => exact h.elim
    | cont => exact h.elim
    | ret u =>
      obtain ⟨v, H', os, bare, un, hok', r', q⟩ := h
      obtain rfl : v = .bl true := q
      obtain rfl : u = Value.bool true := r'
      refine ⟨rfl, OldK.of_keep ?_, os, bare⟩
      intro b o e
      rcases Option.eq_none_or_eq_some (H b) with q | ⟨u, q⟩
      · exact un.keep b o e q (by intro z; cases z) (by simp)
      · rcases hO b with z | ⟨ob, xs, z⟩
        · rw [q] at z; cases z
        · have y1 := (hok b _ z).1
          have y2 := (hok' b _ (un.frzs b ob _ z)).1
          rw [e] at y1
          cases y1
          exact y2
theorem law_end (KX : K.In s₁.heap) (hns : s₁.heap.Ns mainGlobals mg) (hb : s₁.heap.Ns builtinsNs mb) (hbb : ∀ x : PySem.Str, x ≠ "__name__" → mb x = bootBuiltins x) (hlim : s₁.heap.NoLimit) (hg : s₁.gens = #[])
    (ha : s₁.heap.get? a = some { cls := .type "list", data := .seq vs.toArray }) (hi : IntsAre vs ns) (hl : ns.length ≤ sizeLine) (hr : Room k callerA)
    (F : ∀ base : Heap, K.In base → base.Ns mainGlobals mg → Ok0 P w K mg base k fa fd [x] sp) (hbind : ∀ (s : Shared) (u : Value), BindsTo s fd ⟨[u], []⟩ [(x, u)])
    (hsp : ∀ H : Hp, Only H → SqL K H a (ns.map V.int) → sp [.ref a] H (fun v _ => v = .bl true) fun _ _ _ => False) :
    codeAny (model P w) callerA (.call (.ref fa) ⟨[.ref a], []⟩) (fun r s' => r = .ok (.ret (.bool true)) ∧ OldK s₁.heap s'.heap ∧ s'.os = s₁.os ∧ AllBare s'.gens) s₁ := by
  have rv := vals_ints hi
  rcases Option.eq_none_or_eq_some (K.lookup a) with hk | ⟨o, hk⟩
  · let ob : Obj := { cls := .type "list", data := .seq vs.toArray }
    let H : Hp := fun b => if b = a then some (.frz ob (.lst (ns.map V.int))) else none
    have at_ : ∀ b, b = a → H b = some (.frz ob (.lst (ns.map V.int))) := fun b e => if_pos e
    have off : ∀ b, b ≠ a → H b = none := fun b e => if_neg e
    refine law_core (H := H) KX hns hb hbb hlim hg ha hr F hbind ?_ (hsp H ?_ (.inl (.inr ⟨ob, at_ a rfl⟩))) ?_ ?_ (fun _ => hk)
    · intro b
      by_cases e : b = a
      · exact .inr ⟨_, _, at_ b e⟩
      · exact .inl (off b e)
    · intro b
      by_cases e : b = a
      · exact .inr ⟨_, _, at_ b e⟩
      · exact .inl (off b e)
    · intro b u z
      by_cases e : b = a
      · rw [at_ b e] at z
        cases z
        subst e
        exact ⟨ha, by rw [List.length_map]; exact hl, vs, _, rv, ha⟩
      · rw [off b e] at z
        cases z
    · intro b z
      by_cases e : b = a
      · exact e
      · exact absurd (off b e) z
  · have e := KX a o hk
    rw [ha] at e
    cases e
    have lv : vs.length ≤ sizeLine := by rw [hi.length]; exact hl
    refine law_core (H := fun _ => none) KX hns hb hbb hlim hg ha hr F hbind (fun _ => .inl rfl) (hsp _ (fun _ => .inl rfl) (.inr ⟨_, vs.toArray, _, hk, rfl, rfl, rfl, by simpa using lv, by simpa using rv⟩)) ?_ (fun b z => absurd rfl z) (fun z => absurd rfl z)
    intro b u z
    cases z
end
/-- the end of a law whose promise wants empty guards -/
theorem walk_of0 {l : PySem.W.OpenLaw} {n k : Nat} {q : Program} {loose : List PySem.Str} {XP : (PySem.Str → Option Value) → Heap → Prop} {YP : World → Heap → Prop} {d : DefRec} {K : Params → PySem.W.Frag} {sp : PySem.W.Frag → Sp} {x : PySem.Str}
    (hn : l.most = some n) (hn2 : n ≤ sizeLine) (hdf : d.params.defaults = []) (hr : Room k callerA) (hY : ∀ (w : World) (h : Heap), YP w h → (K w.params).In h)
    (F : ∀ (w : World) (mg : PySem.Str → Option Value) (fa : Addr) (h : Heap), (K w.params).In h → h.Ns mainGlobals mg → mg d.name = some (.ref fa) →
      ∃ fd : FuncData, (∀ (s : Shared) (u : Value), BindsTo s fd ⟨[u], []⟩ [(x, u)]) ∧ ∀ base : Heap, (K w.params).In base → base.Ns mainGlobals mg → Ok0 l.prog w (K w.params) mg base k fa fd [x] (sp (K w.params)))
    (hsp : ∀ (K : PySem.W.Frag) (H : Hp) (a : Addr) (ns : List Int), ns.length ≤ n → Only H → SqL K H a (ns.map V.int) → sp K [.ref a] H (fun v _ => v = .bl true) fun _ _ _ => False) :
    PySem.W.WalkO q loose XP YP l.row.toRowW d [] (fun f vs => PySem.call f vs) := by
  refine Att.attach_call hn hdf ?_
  intro w s₀ s₁ mg mb fa o pm cd doc a vs ns G Y ho hd hcd hmg hobj hints hlen hg
  obtain ⟨fd, hb, hF⟩ := F w mg fa _ (hY w _ Y) G.T.g hmg
  exact law_end (hY w _ Y) G.T.g G.T.b G.T.builtins G.T.nolimit hg hobj hints (Nat.le_trans hlen hn2) hr hF hb (fun H hO hS => hsp _ H a ns hlen hO hS)
end V1
/-! Lists read by place for +=, things turned about, tuples held against (). -/
namespace V1
open PySem PySem.Spec PyProof.Rows L2
section
variable {X : Cx}
/-- xs[i], read for xs[i] op= e -/
theorem pget_lst : PGet X (fun o i H Q => ∃ (p : Addr) (xs : List V) (k : Int) (v : V), o = .ref p ∧ i = .int k ∧ H p = some (.lst xs) ∧ 0 ≤ k ∧ k < 2 ^ 63 ∧ xs[k.toNat]? = some v ∧ Q v H) := by
  intro pins s σ H o i ov iv Q I ro ri h
  obtain ⟨p, xs, k, v, rfl, rfl, hp, h0, h1, hv, q⟩ := h
  cases (show ov = Value.ref p from ro)
  obtain ⟨t, rfl⟩ := ri
  obtain ⟨its, r, ht, hz⟩ := I.list (.inl (.inl hp))
  obtain ⟨u, hu, ru⟩ := r.get hv
  exact wpAny_getItem_list ht.isList h0 h1 (by simpa using hu) ⟨v, H, I, ru, q⟩
theorem rev_bounds (n : Nat) : Builtin.Slice.sliceAdjust none none (-1) (n : Int) = ((n : Int) - 1, -1) := by
  unfold Builtin.Slice.sliceAdjust
  simp
theorem rev_places (n : Nat) : Builtin.Slice.slicePlaces ((n : Int) - 1) (-1) (-1) = n := by
  unfold Builtin.Slice.slicePlaces
  have h1 : ¬ ((-1 : Int) > 0) := by omega
  simp only [h1, if_false, Int.neg_neg, Int.ediv_one]
  split <;> omega
theorem mem_picks {α : Type} {xs : Array α} {l : List Nat} {y : α} (h : y ∈ l.filterMap (xs[·]?)) : y ∈ xs.toList := by
  obtain ⟨i, _, e⟩ := List.mem_filterMap.mp h
  rw [← Array.getElem?_toList] at e
  exact List.mem_of_getElem? e
theorem tup_rev {prog : Program} {w : World} {A : Around} {E : Value → Shared → Prop} {s : Shared} {t sl : Addr} {items : Array Value} {k : Tok} {Q : Value → Shared → Prop} (ht : IsTup s.heap t items) (hs : s.heap.IsSliceOf sl .none .none (.int (-1) k))
    (h : ∀ ys : List Value, (∀ y ∈ ys, y ∈ items.toList) → ys.length ≤ items.size → Q (.ref s.heap.objs.size) { s with heap := s.heap.push { cls := .type "tuple", data := .seq ys.toArray } })
    (hsz : items.size ≤ sizeLine) : wpAny (model prog w) A (getItem (.ref t) (.ref sl)) Q E s := by
  obtain ⟨os, hos, hcs, hds⟩ := id hs
  have hTs : s.TypeIs (.ref sl) "slice" := ⟨os, hos, hcs⟩
  let ys : List Value := (List.range items.size).filterMap fun (m : Nat) => items[(((items.size : Int) - 1) + (m : Int) * (-1)).toNat]?
  have m1 : ∀ y ∈ ys, y ∈ items.toList := fun y hy => by
    obtain ⟨i, _, e⟩ := List.mem_filterMap.mp hy
    rw [← Array.getElem?_toList] at e
    exact List.mem_of_getElem? e
  have m2 : ys.length ≤ items.size := Nat.le_trans (List.length_filterMap_le _ _) (by rw [List.length_range]; exact Nat.le_refl _)
  have hq := h ys m1 m2
  have fit : sizeOk (.seq ys.toArray) := by
    show ys.toArray.size ≤ sizeLine
    rw [List.size_toArray]
    omega
  unfold getItem
  try with_reducible refine wpAny_holding ?_
  first | refine wpAny_bind (wpAny_pure ?_) | skip
  refine wpAny_bind (wpAny_sequenceKey ht.typeIs (by decide) ?_)
  refine wpAny_bind (wpAny_callSpecial?_slot (name := PySem.Str.ofString "__getitem__") ht.typeIs PyProof.Rows.slot_tuple_getitem (wpAny_call_entry PyProof.Rows.slot_tuple_getitem ht.typeIs entry_tuple_getitem ?_ (args_tuple_getitem _ _)))
  show wpAny _ _ (Builtin.Tuple.tupleItemsOf (.ref t) >>= _) _ _ s
  refine wpAny_bind (tupleItemsOf_ ht (wpAny_bind (wpAny_typeOf hTs ?_)))
  rw [if_pos (by decide)]
  have applied : ∀ {Q' : Int × Int × Nat → Shared → Prop}, Q' ((items.size : Int) - 1, -1, items.size) s → ∀ {E' : Value → Shared → Prop} {A' : Around}, wpAny (model prog w) A' (Builtin.Slice.sliceApplied (.ref sl) (pure (items.size : Int))) Q' E' s := by
    intro Q' hq' E' A'
    unfold Builtin.Slice.sliceApplied Builtin.Slice.sliceFields
    refine wpAny_bind (wpAny_bind (wpAny_field hos hds (x := .none) rfl (wpAny_bind (wpAny_field hos hds (x := .none) rfl (wpAny_bind (wpAny_field hos hds (x := .int (-1) k) rfl (wpAny_pure ?_)))))))
    refine wpAny_bind (slicePart_int ?_)
    show wpAny _ _ (if ((-1 : Int) == 0) = true then _ else _) _ _ s
    rw [if_neg (by decide)]
    refine wpAny_bind (slicePart_none (wpAny_bind (slicePart_none (wpAny_bind (wpAny_pure ?_)))))
    show wpAny _ _ (match Builtin.Slice.sliceAdjust none none (-1) (items.size : Int) with | (lo, hi) => pure (lo, (-1 : Int), Builtin.Slice.slicePlaces lo hi (-1))) _ _ s
    rw [rev_bounds]
    show wpAny _ _ (pure ((items.size : Int) - 1, (-1 : Int), Builtin.Slice.slicePlaces ((items.size : Int) - 1) (-1) (-1))) _ _ s
    rw [rev_places]
    exact wpAny_pure hq'
  refine wpAny_bind (applied ?_)
  have no : ¬ ((((items.size : Int) - 1) == 0 && (-1 : Int) == 1 && items.size == items.size) = true) := by
    intro q
    rw [Bool.and_eq_true, Bool.and_eq_true] at q
    exact absurd q.1.2 (by decide)
  show wpAny _ _ (if (((items.size : Int) - 1) == 0 && (-1 : Int) == 1 && items.size == items.size) = true then _ else _) _ _ s
  rw [if_neg no]
  first
    | exact wpAny_bind (m := Builtin.Tuple.tupleExact _) (wpAny_newObj_type (wpAny_pure ⟨_, rfl, wpAny_pure hq⟩) fit)
    | exact wpAny_bind (m := Builtin.Tuple.tupleExact _) (wpAny_newObj_type (wpAny_bind (wpAny_pure (wpAny_pure ⟨_, rfl, wpAny_pure hq⟩))) fit)
    | exact wpAny_bind (wpAny_bind (m := Builtin.Tuple.tupleExact _) (wpAny_newObj_type (wpAny_pure (wpAny_pure ⟨_, rfl, wpAny_pure hq⟩)) fit))
    | exact wpAny_bind (wpAny_bind (m := Builtin.Tuple.tupleExact _) (wpAny_newObj_type (wpAny_pure ⟨_, rfl, wpAny_pure hq⟩) fit))
/-- t == () -/
theorem op_eqT0 (hu : X.A.units < cLine) : OpR X (compareOp .Eq) (fun x y H Q => ∃ (a b : Addr) (xs : List V), x = .ref a ∧ y = .ref b ∧ SqT X.K H a xs ∧ SqT X.K H b [] ∧ Q (.bl xs.isEmpty) H) := by
  intro pins s σ H x y v u Q I rx ry h
  obtain ⟨a, b, xs, rfl, rfl, ha, hb, q⟩ := h
  cases (show v = Value.ref a from rx)
  cases (show u = Value.ref b from ry)
  obtain ⟨i1, r1, p1, _⟩ := I.tuple ha
  obtain ⟨i2, r2, p2, _⟩ := I.tuple hb
  cases r2
  refine SeqAt.eq_tupleAt (e := fun _ => true) p1 p2 hu (fun j _ h2 => absurd h2 (Nat.not_lt_zero j)) ?_
  refine ⟨.bl xs.isEmpty, H, I, ?_, q⟩
  cases r1 with
  | nil => rfl
  | cons c d => simp [L2.RelV]
theorem cut_mem {z : PySem.Str} {lo hi : Option Int} {k : Nat} (h : k ∈ (cutS z lo hi).cps.toList) : k ∈ z.cps.toList := by
  have h' : k ∈ (z.cps.toList.drop (HT.sIx z.length 0 lo)).take (HT.sIx z.length z.length hi - HT.sIx z.length 0 lo) := h
  exact List.mem_of_mem_drop (List.mem_of_mem_take h')
/-- x[::-1], x a text or a tuple: some arrangement of its items -/
theorem pe_rev {e : Expr} {te : TE} {k : Nat} {p1 p2 p3 pos : Pos} (he : PE X e te) : PE X (.Subscript e (.Slice none none (some (.UnaryOp .USub (.Constant (.int 1) k p1) p2)) p3) pos)
    (fun σ H Q => te σ H fun x H1 => (∃ z, x = .str z ∧ z.length ≤ sizeLine ∧ ∀ y : PySem.Str, y.length ≤ z.length → (∀ k ∈ y.cps.toList, k ∈ z.cps.toList) → Q (.str y) H1) ∨
      (∃ a xs, x = .ref a ∧ SqT X.K H1 a xs ∧ ∀ p ys, H1 p = none → (∀ y ∈ ys, y ∈ xs) → ys.length ≤ xs.length → Q (.ref p) (upd H1 p (.tup ys)))) := by
  constructor
  intro pins s σ H Q I h
  refine Subscript_ (thn (he.run pins s σ H _ I h) ?_)
  rintro v s1 ⟨x, H1, I1, r1, q1⟩
  have hst : PO X (some (.UnaryOp .USub (.Constant (.int 1) k p1) p2)) (tPart (tUn (rU fun i => .int (-i)) (tC (.int 1)))) := po_some (pe_un un_neg pe_int)
  refine wpAny_Slice (thn (po_none.run pins s1 σ H1 (fun o H2 => o = none ∧ H2 = H1) I1 ⟨rfl, rfl⟩) ?_)
  rintro vl s2 ⟨l, H2, I2, pl, rfl, rfl⟩
  refine thn (po_none.run pins s2 σ H2 (fun o H3 => o = none ∧ H3 = H2) I2 ⟨rfl, rfl⟩) ?_
  rintro vu s3 ⟨u, H3, I3, pu, rfl, rfl⟩
  refine thn (hst.run pins s3 σ H3 (fun o H4 => o = some (-1) ∧ H4 = H3) I3 ⟨1, rfl, -1, rfl, rfl, rfl⟩) ?_
  rintro vs s4 ⟨o, H4, I4, ps, rfl, rfl⟩
  cases pl
  cases pu
  obtain ⟨tk, rfl⟩ : ∃ tk, vs = .int (-1) tk := by cases ps with | int i t => exact ⟨t, rfl⟩
  have I5 : Inv X pins σ H4 { s4 with heap := s4.heap.push { cls := .type "slice", data := .fields #[Value.none, Value.none, .int (-1) tk] } } := I4.kept (t' := s4.toks) fun b ob q => Heap.get?_push_of_some _ q
  show wpAny (model X.prog X.w) X.A (subscriptTail e (.Slice none none (some (.UnaryOp .USub (.Constant (.int 1) k p1) p2)) p3) v (.ref s4.heap.objs.size)) (EP X pins σ Q) X.xe _
  rcases q1 with ⟨z, rfl, hz, q⟩ | ⟨a, xs, rfl, hx, q⟩
  · obtain ⟨t, rfl⟩ := r1
    refine tail_any (ops := [.str z t, .ref s4.heap.objs.size]) (typeIs_str _ z t) F.slot_str_getitem.lookup ?_ (by with_unfolding_all rfl)
    refine wpAny_getItem_str_slice (l := none) (u := none) (st := some (-1, tk)) ⟨_, Heap.get?_push_size _ rfl, rfl, rfl⟩ rfl ?_
    let y : PySem.Str := ⟨((slicePicked z none none (some (-1, tk))).filterMap (z.cps[·]?)).toArray⟩
    have e1 : slicePicked z none none (some (-1, tk)) = (List.range z.length).map fun k => z.length - 1 - k := by
      show Builtin.Str.strSliceIndices none none (-1) z.length = _
      unfold Builtin.Str.strSliceIndices
      simp only [show ¬ ((-1 : Int) > 0) by decide, if_false]
      exact PySem.W.krv_sliceRange z.length
    have e2 : y.length ≤ z.length := by
      show (((slicePicked z none none (some (-1, tk))).filterMap (z.cps[·]?)).toArray).size ≤ z.length
      rw [List.size_toArray]
      refine Nat.le_trans (List.length_filterMap_le _ _) ?_
      rw [e1, List.length_map, List.length_range]
      exact Nat.le_refl _
    have e3 : ∀ k ∈ y.cps.toList, k ∈ z.cps.toList := fun k hk => mem_picks hk
    have hq := q y e2 e3
    unfold sliceMade
    rw [if_neg (by intro c; exact absurd (show ((-1 : Int) == 1) = true from (Bool.and_eq_true_iff.mp c).1) (by decide))]
    exact ⟨by show y.length ≤ sizeLine; omega, .str y, H4, I5.tok _, ⟨_, rfl⟩, hq⟩
  · cases (show v = Value.ref a from r1)
    obtain ⟨its, r, ht, hz⟩ := I5.tuple hx
    refine tail_any (ops := [.ref a, .ref s4.heap.objs.size]) ht.typeIs PyProof.Rows.slot_tuple_getitem.lookup ?_ (by with_unfolding_all rfl)
    refine tup_rev ht (Heap.IsSliceOf.new _ _ _ _) (fun ys hy hl => ?_) (by rw [List.size_toArray, ← r.length]; exact hz)
    obtain ⟨zs, rz, hzs⟩ : ∃ zs : List V, Vals zs ys ∧ ∀ y ∈ zs, y ∈ xs := by
      clear hl
      induction ys with
      | nil => exact ⟨[], .nil, fun y hy => by cases hy⟩
      | cons y ys ih =>
        obtain ⟨zs, rz, hzs⟩ := ih fun w hw => hy w (List.mem_cons_of_mem _ hw)
        obtain ⟨j, hj⟩ := List.mem_iff_getElem?.mp (hy y List.mem_cons_self)
        have hj' : its[j]? = some y := by simpa using hj
        rcases Option.eq_none_or_eq_some (xs[j]?) with n | ⟨x, n⟩
        · have := r.none_of n
          rw [this] at hj'; cases hj'
        · obtain ⟨u, hu, ru⟩ := r.get n
          rw [hj'] at hu
          cases hu
          exact ⟨x :: zs, .cons ru rz, fun w hw => by
            rcases List.mem_cons.mp hw with e | e
            · exact e ▸ List.mem_of_getElem? n
            · exact hzs w e⟩
    have hlen : zs.length ≤ xs.length := by
      rw [rz.length, r.length]
      rw [List.size_toArray] at hl
      exact hl
    have hn := I5.hok.fresh (Nat.le_refl _)
    refine ⟨.ref _, _, I5.laid (t' := s4.toks) (o := .tup zs) (fun b ob q => Heap.get?_push_of_some _ q) (Nat.le_refl _) ?_, rfl, q _ zs hn hzs hlen⟩
    exact ⟨by omega, _, rz, IsTup.new _ _⟩
end
end V1
/-! The draws. -/
namespace V1
open PySem PySem.Spec PyProof.Rows L2
def topS (i : Nat) : Stmt := PySem.Challenge.pw_packsworn_k01_versions_shown_and_raised.main.body.getD i (.Pass ⟨0, 0, 0, 0⟩)
abbrev sTake : Stmt := topS 22
abbrev sOne : Stmt := topS 23
theorem scTake : FnScope ["bag", "many", "cell", "stirred", "value", "begin", "second"] ["bag", "many"] (defScope sTake) := ⟨rfl, rfl, rfl, by decide +kernel, rfl, by decide +kernel, by decide +kernel⟩
theorem scOne : FnScope ["bag", "things"] ["bag", "things"] (defScope sOne) := ⟨rfl, rfl, rfl, by decide +kernel, rfl, by decide +kernel, by decide +kernel⟩
/-- all but b is as it was -/
structure Chb (b : Addr) (H H' : Hp) : Prop where
  app : ∀ a o, a ≠ b → H a = some o → H' a = some o
  fo : ∀ x y z l, H b = some (.lst [x, y, z, l]) → ∃ x y z, H' b = some (.lst [x, y, z, l])
instance {b : Addr} {H H' : Hp} : CoeFun (Chb b H H') (fun _ => ∀ a o, a ≠ b → H a = some o → H' a = some o) := ⟨Chb.app⟩
theorem Chb.refl {b : Addr} {H : Hp} : Chb b H H := ⟨fun _ _ _ h => h, fun _ _ _ _ h => ⟨_, _, _, h⟩⟩
theorem Chb.trans {b : Addr} {H H1 H2 : Hp} (x : Chb b H H1) (y : Chb b H1 H2) : Chb b H H2 := ⟨fun a o n h => y.app a o n (x.app a o n h), fun p q r l h => by
  obtain ⟨_, _, _, h1⟩ := x.fo p q r l h
  exact y.fo _ _ _ _ h1⟩
theorem Chb.new {b p : Addr} {o : HO} {H : Hp} (h : H p = none) : Chb b H (upd H p o) := ⟨fun a u _ e => by rw [upd_ne (ne_of_none e h)]; exact e, fun x y z l e => ⟨x, y, z, by rw [upd_ne (ne_of_none e h)]; exact e⟩⟩
theorem Chb.set {b : Addr} {x y z l x' y' z' : V} {H : Hp} (h : H b = some (.lst [x, y, z, l])) : Chb b H (upd H b (.lst [x', y', z', l])) := ⟨fun a u n e => by rw [upd_ne n]; exact e, fun p q r m e => by
  rw [h] at e
  cases e
  exact ⟨_, _, _, upd_same⟩⟩
theorem Chb.same {b : Addr} {H H' : Hp} (h : ∀ a o, H a = some o → H' a = some o) : Chb b H H' := ⟨fun a o _ e => h a o e, fun x y z l e => ⟨x, y, z, h _ _ e⟩⟩
theorem new_ne {H : Hp} {a p : Addr} {o u : HO} (ha : H a = some o) (hp : H p = none) : (upd H p u) a = some o := by rw [upd_ne (ne_of_none ha hp)]; exact ha
theorem new_same {H : Hp} {p : Addr} {o : HO} (h : H p = none) : Same H (upd H p o) := fun a u e => new_ne e h
/-- the bag at b -/
def Bag (H : Hp) (b : Addr) : Prop := ∃ (n m k : Int) (l : Addr) (cs : List Int), H b = some (.lst [.int n, .int m, .int k, .ref l]) ∧ H l = some (.lst (cs.map V.int)) ∧ l ≠ b ∧ 0 ≤ n ∧ 0 ≤ m ∧ m < 2147483647 ∧ cs.length ≤ 63 ∧ ∀ c ∈ cs, 0 ≤ c
theorem head_int {cs : List Int} (hc : ∀ c ∈ cs, 0 ≤ c) (lo hi : Option Int) : ∃ c : Int, 0 ≤ c ∧ atI (cutV (cs.map V.int) lo hi ++ [.int 0]) 0 = some (.int c) := by
  have sub : ∀ v ∈ cutV (cs.map V.int) lo hi, ∃ c, 0 ≤ c ∧ v = .int c := fun v hv => by
    have h1 := List.mem_of_mem_drop (List.mem_of_mem_take hv)
    obtain ⟨c, hc', e⟩ := List.mem_map.mp h1
    exact ⟨c, hc c hc', e.symm⟩
  generalize cutV (cs.map V.int) lo hi = zs at sub
  cases zs with
  | nil => exact ⟨0, by omega, rfl⟩
  | cons v zs =>
    obtain ⟨c, h0, rfl⟩ := sub v List.mem_cons_self
    exact ⟨c, h0, atI_nat (j := 0) rfl⟩
section
variable {P : Program} {w : World} {K : PySem.W.Frag} {mg : PySem.Str → Option Value} {base : Heap}
def spTake : Sp := fun vs H Q _ => ∃ (b : Addr) (many : Int), vs = [.ref b, .int many] ∧ Bag H b ∧ 0 < many ∧ many < 1073741824 ∧ ∀ H' v, Chb b H H' → Bag H' b → 0 ≤ v → v < many → Q (.int v) H'
theorem ok_take {f : Addr} {fd : FuncData} {k : Nat} (F : Fun K "_law_take" "_law_take" sTake f fd) (mI : mg "int" = none) : FnOk P w K mg base CX0 (k + 1) f fd ["bag", "many"] spTake := by
  refine F.ok scTake (fun vs H Q E h => ?_) (fun cdv A outer s H vs Q E hr h => ?_)
  · obtain ⟨b, many, rfl, _⟩ := h
    rfl
  · obtain ⟨b, many, rfl, hB, hm0, hm1, q⟩ := h
    refine ⟨_, C8.pss_cut (ps_if (pt_cmpR op_eq (pe_ix ix_list (pv 0) pe_int (fun _ _ => rfl)) pe_int (nomark _))
        (pss_cons (ps_set (i := 2) scTake.nd rfl (.inl rfl) (pe_ix ix_list (pe_op op_cat (pe_slice sl_list (pe_ix ix_list (pv 0) pe_int (fun _ _ => rfl)) (po_some (pe_ix ix_list (pv 0) pe_int (fun _ _ => rfl))) po_none) (pe_lst (pa_cons pe_int pa_nil))) pe_int (fun _ _ => rfl)))
        (pss_cons (ps_augS (pv 0) pe_int pget_lst pe_int ip_add set_list)
        (C8.pss_cut (ps_if (pt_cmpR op_ge (pv 2) (pe_op op_pow pe_int pe_int) (nomark _)) (pss_one (ps_asg (pv 2) (pg_sub (pv 0) pe_int set_list))) pss_nil)
        (pss_cons (ps_set (i := 3) scTake.nd rfl (.inl rfl) (pe_op op_add (pe_op op_add (pe_op op_mul (pe_ix ix_list (pv 0) pe_int (fun _ _ => rfl)) pe_int) (pe_op op_mod (pe_callTy call_int1 (by rfl) mI (by decide +kernel) (pa_cons (pv 2) pa_nil)) pe_int)) (pe_op op_mul pe_int (pe_ix ix_list (pv 0) pe_int (fun _ _ => rfl)))))
        (pss_one (ps_asg (pe_op op_mod (pe_callTy call_int1 (by rfl) mI (by decide +kernel) (pa_cons (pv 3) pa_nil)) pe_int) (pg_sub (pv 0) pe_int set_list)))))))
        pss_nil)
      (pss_cons (ps_if (pt_cmpR op_gt (pe_ix ix_list (pv 0) pe_int (fun _ _ => rfl)) pe_int (nomark _))
        (pss_cons (ps_set (i := 4) scTake.nd rfl (.inl rfl) (pe_op op_mod (pe_callTy call_int1 (by rfl) mI (by decide +kernel) (pa_cons (pe_ix ix_list (pv 0) pe_int (fun _ _ => rfl)) pa_nil)) (pv 1)))
        (pss_cons (ps_asg (pe_op op_fdiv (pe_callTy call_int1 (by rfl) mI (by decide +kernel) (pa_cons (pe_ix ix_list (pv 0) pe_int (fun _ _ => rfl)) pa_nil)) (pv 1)) (pg_sub (pv 0) pe_int set_list))
        (pss_one (ps_ret (pv 4)))))
        pss_nil)
      (pss_cons (ps_set (i := 5) scTake.nd rfl (.inl rfl) (pe_op op_mod (pe_callTy call_int1 (by rfl) mI (by decide +kernel) (pa_cons (pe_op op_mul (pe_op op_add (pe_ix ix_list (pv 0) pe_int (fun _ _ => rfl)) pe_int) pe_int) pa_nil)) pe_int))
      (pss_cons (ps_set (i := 6) scTake.nd rfl (.inl rfl) (pe_op op_mod (pe_callTy call_int1 (by rfl) mI (by decide +kernel) (pa_cons (pe_op op_mul (pe_op op_mod (pe_callTy call_int1 (by rfl) mI (by decide +kernel) (pa_cons (pe_op op_mul (pv 5) (pv 5)) pa_nil)) pe_int) pe_int) pa_nil)) pe_int))
      (pss_one (ps_ret (pe_op op_mod (pe_callTy call_int1 (by rfl) mI (by decide +kernel) (pa_cons (pe_op op_fdiv (pv 6) pe_int) pa_nil)) (pv 1))))))), ?_⟩
    obtain ⟨n, m, k, l, cs, hb, hl, hne, h0, h1, h2, h3, hcs⟩ := hB
    refine ⟨fun σ' H' => ∃ y2 y3, σ' = [some (.ref b), some (.int many), y2, y3, none, none, none] ∧ Chb b H H' ∧ Bag H' b, ?_, fun σ' H' hM => ?_⟩
    · refine ⟨.ref b, rfl, b, _, 0, .int n, rfl, rfl, .inl (.inl hb), rfl, rfl, _, rfl, ite2 (fun e => ?_) (fun e => ?_)⟩
      · obtain ⟨c, hc0, hc⟩ := head_int hcs (some k) none
        refine ⟨.ref b, rfl, b, _, 3, .ref l, rfl, rfl, .inl (.inl hb), rfl, .ref b, rfl, b, _, 2, .int k, rfl, rfl, .inl (.inl hb), rfl, k, rfl, l, _, rfl, .inl (.inl hl), fun p np => ⟨by show 1 ≤ sizeLine; decide, fun o no => ?_⟩⟩
        refine ⟨p, o, _, _, rfl, rfl, new_ne upd_same no, upd_same, ?_, fun r nr => ?_⟩
        · have := cutV_length (cs.map V.int) (some k) none
          rw [List.length_map] at this
          rw [sizeLine_eq]
          show _ + 1 ≤ _
          omega
        · refine ⟨r, _, 0, .int c, rfl, rfl, .inl (.inl upd_same), hc, ?_⟩
          generalize hH3 : upd (upd (upd H p _) o _) r _ = H3
          have c3 : Same H H3 := by rw [← hH3]; exact ((new_same np).trans (new_same no)).trans (new_same nr)
          have hb3 := c3 _ _ hb
          refine ⟨.ref b, rfl, b, _, 2, .int k, rfl, rfl, hb3, by decide, by decide, rfl, k, 1, rfl, rfl, b, _, 2, 2, rfl, rfl, hb3, rfl, ?_⟩
          refine ⟨fun σ' H' => σ' = [some (.ref b), some (.int many), some (.int c), none, none, none, none] ∧ Chb b H H' ∧ ∃ n', 0 ≤ n' ∧ H' b = some (.lst [.int n', .int m, .int (k + 1), .ref l]), ?_, fun σ' H' hM => ?_⟩
          · refine ⟨_, rfl, 10, 18, rfl, rfl, ⟨by decide, by decide, by decide⟩, c, _, rfl, rfl, _, rfl, ite2 (fun e2 => ?_) (fun e2 => ?_)⟩
            · exact ⟨_, rfl, .ref b, rfl, b, _, 0, 0, rfl, rfl, upd_same, rfl, rfl, ((Chb.same c3).trans (Chb.set hb3)).trans (Chb.set upd_same), c, hc0, upd_same⟩
            · exact ⟨rfl, (Chb.same c3).trans (Chb.set hb3), n, h0, upd_same⟩
          · obtain ⟨rfl, hC, n', hn', hb5⟩ := hM
            refine ⟨.ref b, rfl, b, _, 1, .int m, rfl, rfl, .inl (.inl hb5), rfl, m, 48271, rfl, rfl, .inl ⟨by omega, by omega⟩, _, rfl, .inl ⟨c, rfl, c, 2147483647, rfl, rfl, (by show (0 : Int) < 2147483647; decide), _, _, rfl, rfl, .ref b, rfl, b, _, 2, .int (k + 1), rfl, rfl, .inl (.inl hb5), rfl, 7919, k + 1, rfl, rfl, .inl ⟨by decide, by decide⟩, _, _, rfl, rfl, ?_⟩⟩
            refine ⟨_, rfl, .inl ⟨_, rfl, _, 2147483647, rfl, rfl, (by show (0 : Int) < 2147483647; decide), .ref b, rfl, b, _, 1, 1, rfl, rfl, hb5, rfl, ?_⟩⟩
            refine ⟨_, _, rfl, hC.trans (Chb.set hb5), n', _, k + 1, l, cs, upd_same, ?_, hne, hn', Int.emod_nonneg _ (by decide), Int.emod_lt_of_pos _ (by decide), h3, hcs⟩
            rw [upd_ne hne]
            exact hC _ _ hne hl
      · exact ⟨none, none, rfl, Chb.refl, n, m, k, l, cs, hb, hl, hne, h0, h1, h2, h3, hcs⟩
    · clear hb hl hne h0 h1 h2 h3 hcs
      obtain ⟨y2, y3, rfl, hC, n, m, k, l, cs, hb, hl, hne, h0, h1, h2, h3, hcs⟩ := hM
      refine ⟨.ref b, rfl, b, _, 0, .int n, rfl, rfl, .inl (.inl hb), rfl, n, 0, rfl, rfl, _, rfl, ite2 (fun e => ?_) (fun e => ?_)⟩
      · refine ⟨.ref b, rfl, b, _, 0, .int n, rfl, rfl, .inl (.inl hb), rfl, .inl ⟨n, rfl, _, rfl, n, many, rfl, rfl, hm0, ?_⟩⟩
        refine ⟨.ref b, rfl, b, _, 0, .int n, rfl, rfl, .inl (.inl hb), rfl, .inl ⟨n, rfl, _, rfl, n, many, rfl, rfl, ⟨hm0, hm1⟩, .ref b, rfl, b, _, 0, 0, rfl, rfl, hb, rfl, _, rfl, ?_⟩⟩
        refine q _ _ (hC.trans (Chb.set hb)) ⟨n / many, m, k, l, cs, upd_same, ?_, hne, Int.ediv_nonneg h0 (by omega), h1, h2, h3, hcs⟩ (Int.emod_nonneg _ (by omega)) (Int.emod_lt_of_pos _ hm0)
        rw [upd_ne hne]
        exact hl
      · have hB' : Bag H' b := ⟨n, m, k, l, cs, hb, hl, hne, h0, h1, h2, h3, hcs⟩
        refine ⟨.ref b, rfl, b, _, 1, .int m, rfl, rfl, .inl (.inl hb), rfl, m, 1, rfl, rfl, m + 1, 39373, rfl, rfl, .inl ⟨by omega, by omega⟩, .inl ⟨_, rfl, _, 1000000007, rfl, rfl, (by show (0 : Int) < 1000000007; decide), ?_⟩⟩
        have b0 := Int.emod_nonneg ((m + 1) * 39373) (show (1000000007 : Int) ≠ 0 by decide)
        have b1 := Int.emod_lt_of_pos ((m + 1) * 39373) (show (0 : Int) < 1000000007 by decide)
        refine ⟨_, rfl, _, rfl, (m + 1) * 39373 % 1000000007, (m + 1) * 39373 % 1000000007, rfl, rfl, .inl ⟨by omega, by omega⟩, ?_⟩
        generalize (m + 1) * 39373 % 1000000007 = begn at b0 b1
        have d0 := Int.emod_nonneg (begn * begn) (show (998244353 : Int) ≠ 0 by decide)
        have d1 := Int.emod_lt_of_pos (begn * begn) (show (0 : Int) < 998244353 by decide)
        refine .inl ⟨_, rfl, _, 998244353, rfl, rfl, (by show (0 : Int) < 998244353; decide), _, 30011, rfl, rfl, .inl ⟨by omega, by omega⟩, .inl ⟨_, rfl, _, 998244353, rfl, rfl, (by show (0 : Int) < 998244353; decide), ?_⟩⟩
        refine ⟨_, rfl, _, 7, rfl, rfl, ⟨by decide, by decide⟩, .inl ⟨_, rfl, _, rfl, _, many, rfl, rfl, hm0, ?_⟩⟩
        exact q _ _ hC hB' (Int.emod_nonneg _ (by omega)) (Int.emod_lt_of_pos _ hm0)
/-- one of some things -/
def spOne : Sp := fun vs H Q _ => ∃ (b t : Addr) (xs : List V), vs = [.ref b, .ref t] ∧ Bag H b ∧ H t = some (.lst xs) ∧ t ≠ b ∧ xs ≠ [] ∧ xs.length ≤ 1000 ∧ ∀ H' x, Chb b H H' → Bag H' b → x ∈ xs → Q x H'
theorem ok_one {f fT : Addr} {fd fdT : FuncData} {k : Nat} (F : Fun K "_law_one" "_law_one" sOne f fd) (FT : Fun K "_law_take" "_law_take" sTake fT fdT) (bT : Binds K fdT ["bag", "many"] []) (gT : mg "_law_take" = some (.ref fT))
    (mI : mg "int" = none) (mL : mg "len" = none) : FnOk P w K mg base CX0 (k + 2) f fd ["bag", "things"] spOne := by
  have GT : FnOk P w K mg base CX0 (k + 1) fT fdT ["bag", "many"] spTake := ok_take FT mI
  refine F.ok scOne (fun vs H Q E h => ?_) (fun cdv A outer s H vs Q E hr h => ?_)
  · obtain ⟨b, t, xs, rfl, _⟩ := h
    rfl
  · obtain ⟨b, t, xs, rfl, hB, ht, hne, hx, hl, q⟩ := h
    refine ⟨_, pss_one (ps_ret (pe_ix ix_list (pv 1) (pe_call GT hr (by rfl) gT FT.kp bT .nil pass0 (pa_cons (pv 0) (pa_cons (pe_callB call_len_seq (by rfl) mL PySem.boot_len (pa_cons (pv 1) pa_nil)) pa_nil))) (fun _ _ => rfl))), ?_⟩
    have pos : 0 < xs.length := List.length_pos_iff.mpr hx
    refine ⟨.ref t, rfl, .ref b, rfl, .ref t, rfl, t, xs, rfl, .inl (.inl (.inl ht)), b, _, rfl, hB, by omega, by omega, fun H' v hC hB' v0 v1 => ?_⟩
    have hi : v.toNat < xs.length := by omega
    refine ⟨t, xs, v, xs[v.toNat], rfl, rfl, .inl (.inl (hC _ _ hne ht)), ?_, q H' _ hC hB' (List.getElem_mem hi)⟩
    have e : ((v.toNat : Nat) : Int) = v := by omega
    have z := atI_nat (j := v.toNat) (List.getElem?_eq_getElem hi)
    rw [e] at z
    exact z
end
end V1
/-! Values that are drawn: what they print, what they are, apart from the bag at b. -/
namespace V1
open PySem PySem.Spec PyProof.Rows L2
section
variable {X : Cx} {e : Expr}
/-- a test, what holds behind it said once -/
theorem pt_mid {t : TT} (h : PT X e t) : PT X e (fun σ H Q => ∃ M : Bool → Hp → Prop, t σ H M ∧ ∀ c H', M c H' → Q c H') := by
  constructor
  intro pins s σ H Q I ⟨M, hm, k⟩
  exact thn (h.run pins s σ H M I hm) fun c s1 ⟨H1, I1, q⟩ => ⟨H1, I1, k c H1 q⟩
theorem pe_mid {t : TE} (h : PE X e t) : PE X e (fun σ H Q => ∃ M : V → Hp → Prop, t σ H M ∧ ∀ x H', M x H' → Q x H') := by
  constructor
  intro pins s σ H Q I ⟨M, hm, k⟩
  exact thn (h.run pins s σ H M I hm) fun c s1 ⟨x, H1, I1, r, q⟩ => ⟨x, H1, I1, r, k x H1 q⟩
end
/-- v prints, at depth d at most, at cost B at most, and b is not met -/
def Pv (b : Addr) (H : Hp) (d B : Nat) (v : V) : Prop := ∃ as t e, Shw H [v] d as [t] e ∧ e ≤ B ∧ b ∉ as
section
variable {b : Addr} {H H' : Hp} {d d' B B' : Nat} {v : V} {xs : List V}
theorem Pv.mono (p : Pv b H d B v) (hd : d ≤ d') (hB : B ≤ B') : Pv b H d' B' v := by
  obtain ⟨as, t, e, q, l, n⟩ := p
  exact ⟨as, t, e, q.up hd, by omega, n⟩
theorem Pv.chg (p : Pv b H d B v) (k : Chb b H H') : Pv b H' d B v := by
  obtain ⟨as, t, e, q, l, n⟩ := p
  exact ⟨as, t, e, q.keep fun a ha o h => k a o (fun z => n (z ▸ ha)) h, l, n⟩
theorem Pv.all : ∀ {vs : List V}, (∀ v ∈ vs, Pv b H d B v) → ∃ as ts e, Shw H vs d as ts e ∧ e ≤ B * vs.length ∧ b ∉ as
  | [], _ => ⟨_, _, _, .nil, Nat.zero_le _, by simp⟩
  | v :: vs, h => by
    obtain ⟨as, t, e, q, l, n⟩ := h v List.mem_cons_self
    obtain ⟨bs, us, f, r, m, o⟩ := Pv.all (vs := vs) fun w hw => h w (List.mem_cons_of_mem _ hw)
    refine ⟨_, _, _, q.cons1 r, ?_, ?_⟩
    · rw [List.length_cons, Nat.mul_succ]
      omega
    · intro z
      rcases List.mem_append.mp z with z | z
      · exact n z
      · exact o z
theorem Pv.each (h : ∃ as ts e, Shw H xs d as ts e ∧ e ≤ B ∧ b ∉ as) : ∀ v ∈ xs, ∃ e, Pv b H d e v ∧ e ≤ B := by
  obtain ⟨as, ts, e, q, l, n⟩ := h
  induction q with
  | nil => intro v hv; cases hv
  | non r ih =>
    intro v hv
    rcases List.mem_cons.mp hv with z | z
    · subst z; exact ⟨_, ⟨_, _, _, Shw.non Shw.nil, Nat.le_refl _, by simp⟩, by omega⟩
    · exact ih (by omega) n v z
  | bl c r ih =>
    intro v hv
    rcases List.mem_cons.mp hv with z | z
    · subst z; exact ⟨_, ⟨_, _, _, Shw.bl c Shw.nil, Nat.le_refl _, by simp⟩, by omega⟩
    · exact ih (by omega) n v z
  | int i hi r ih =>
    intro v hv
    rcases List.mem_cons.mp hv with z | z
    · subst z; exact ⟨_, ⟨_, _, _, Shw.int i hi Shw.nil, Nat.le_refl _, by simp⟩, by clear hi; omega⟩
    · exact ih (by clear hi; omega) n v z
  | str x hx hc r ih =>
    intro v hv
    rcases List.mem_cons.mp hv with z | z
    · subst z; exact ⟨_, ⟨_, _, _, Shw.str x hx hc Shw.nil, Nat.le_refl _, by simp⟩, by omega⟩
    · exact ih (by omega) n v z
  | lst h q hn r i1 i2 =>
    intro v hv
    have n1 := fun z => n (List.mem_append_left _ z)
    have n2 := fun z => n (List.mem_append_right _ z)
    rcases List.mem_cons.mp hv with z | z
    · subst z; exact ⟨_, ⟨_, _, _, Shw.lst h q hn Shw.nil, Nat.le_refl _, by simpa using n1⟩, by omega⟩
    · exact i2 (by omega) n2 v z
  | tup h q hn r i1 i2 =>
    intro v hv
    have n1 := fun z => n (List.mem_append_left _ z)
    have n2 := fun z => n (List.mem_append_right _ z)
    rcases List.mem_cons.mp hv with z | z
    · subst z; exact ⟨_, ⟨_, _, _, Shw.tup h q hn Shw.nil, Nat.le_refl _, by simpa using n1⟩, by omega⟩
    · exact i2 (by omega) n2 v z
  | dic ks h hk q hn r i1 i2 =>
    intro v hv
    have n1 := fun z => n (List.mem_append_left _ z)
    have n2 := fun z => n (List.mem_append_right _ z)
    rcases List.mem_cons.mp hv with z | z
    · subst z; exact ⟨_, ⟨_, _, _, Shw.dic ks h hk q hn Shw.nil, Nat.le_refl _, by simpa using n1⟩, by omega⟩
    · exact i2 (by omega) n2 v z
/-- the items of a tuple that prints -/
theorem Pv.items {a : Addr} (p : Pv b H d B (.ref a)) (h : H a = some (.tup xs)) : a ≠ b ∧ ∀ v ∈ xs, Pv b H d B v := by
  obtain ⟨as, t, e, q, l, n⟩ := p
  cases q with
  | lst h' => rw [h] at h'; cases h'
  | dic ks h' => rw [h] at h'; cases h'
  | @tup _ d0 _ _ _ _ ys bs us f h' q' hn r =>
    cases r
    rw [h] at h'
    cases h'
    refine ⟨fun z => n (by rw [z]; simp), fun v hv => ?_⟩
    obtain ⟨e', p, l'⟩ := Pv.each (b := b) (B := f) ⟨_, _, _, q', Nat.le_refl _, fun z => n (by simp [z])⟩ v hv
    exact p.mono (Nat.le_succ _) (by omega)
theorem ne_new {p : Addr} {o : HO} (hb : H b = some o) (hp : H p = none) : b ≠ p := ne_of_none hb hp
/-- a new tuple -/
theorem Pv.tup_new {p : Addr} {o : HO} (hb : H b = some o) (hp : H p = none) (k : ∀ v ∈ xs, Pv b H d B v) : Pv b (upd H p (.tup xs)) (d + 1) (10 + B * xs.length) (.ref p) := by
  obtain ⟨as, ts, e, q, l, n⟩ := Pv.all k
  refine ⟨_, _, _, .tup upd_same (q.keep fun a _ o h => new_ne h hp) (q.fresh hp) .nil, by omega, ?_⟩
  simp only [List.append_nil, List.mem_cons, not_or]
  exact ⟨ne_new hb hp, n⟩
/-- a new list -/
theorem Pv.lst_new {p : Addr} {o : HO} (hb : H b = some o) (hp : H p = none) (k : ∀ v ∈ xs, Pv b H d B v) : Pv b (upd H p (.lst xs)) (d + 1) (10 + B * xs.length) (.ref p) := by
  obtain ⟨as, ts, e, q, l, n⟩ := Pv.all k
  refine ⟨_, _, _, .lst upd_same (q.keep fun a _ o h => new_ne h hp) (q.fresh hp) .nil, by omega, ?_⟩
  simp only [List.append_nil, List.mem_cons, not_or]
  exact ⟨ne_new hb hp, n⟩
end
/-- a tuple at p of items zs that print -/
structure Tp (b : Addr) (H : Hp) (d B : Nat) (p : Addr) (zs : List V) : Prop where
  at_ : H p = some (.tup zs)
  its : ∀ v ∈ zs, Pv b H d B v
  all : Pv b H (d + 1) (10 + B * zs.length) (.ref p)
  ne : p ≠ b
theorem Tp.chg {b : Addr} {H H' : Hp} {d B : Nat} {p : Addr} {zs : List V} (t : Tp b H d B p zs) (k : Chb b H H') : Tp b H' d B p zs :=
  ⟨k _ _ t.ne t.at_, fun v hv => (t.its v hv).chg k, t.all.chg k, t.ne⟩
theorem Tp.new {b : Addr} {H : Hp} {o : HO} {d B : Nat} {p : Addr} {zs : List V} (hb : H b = some o) (hp : H p = none) (k : ∀ v ∈ zs, Pv b H d B v) : Tp b (upd H p (.tup zs)) d B p zs :=
  ⟨upd_same, fun v hv => (k v hv).chg (Chb.new hp), Pv.tup_new hb hp k, (ne_new hb hp).symm⟩
section
variable {X : Cx}
theorem cut_all {xs : List V} {lo hi : Option Int} (h : HT.sIx xs.length 0 lo = 0 ∧ HT.sIx xs.length xs.length hi = xs.length) : cutV xs lo hi = xs := by
  unfold cutV
  rw [h.1, h.2]
  simp
/-- t[lo:hi] of such a tuple -/
theorem sl_tp (b : Addr) (d B : Nat) : SlR X (fun x lo hi H Q => ∃ a xs o, x = .ref a ∧ H b = some o ∧ Tp b H d B a xs ∧ ∀ H' p, Same H H' → Tp b H' d B p (cutV xs lo hi) → Q (.ref p) H') := by
  intro pins s σ H x v vl vu lo hi sl Q I rx hs pl pu h
  obtain ⟨a, xs, o, rfl, hb, t, q⟩ := h
  refine sl_tupA pins s σ H _ v vl vu lo hi sl Q I rx hs pl pu ⟨a, xs, rfl, .inl (.inl t.at_), fun hw => ?_, fun _ p hp => ?_⟩
  · exact q H a (Same.refl H) (by rw [cut_all hw]; exact t)
  · exact q _ p (new_same hp) (.new hb hp fun v hv => t.its v (List.mem_of_mem_drop (List.mem_of_mem_take hv)))
/-- t + u of such tuples -/
theorem op_cattp (b : Addr) (d B : Nat) : OpR X (binaryOp .Add) (fun x y H Q => ∃ a c xs ys o, x = .ref a ∧ y = .ref c ∧ H b = some o ∧ Tp b H d B a xs ∧ Tp b H d B c ys ∧ xs.length + ys.length ≤ 1000 ∧ ∀ H' p, Same H H' → Tp b H' d B p (xs ++ ys) → Q (.ref p) H') := by
  intro pins s σ H x y v u Q I rx ry h
  obtain ⟨a, c, xs, ys, o, rfl, rfl, hb, t1, t2, hl, q⟩ := h
  refine op_catA pins s σ H _ _ v u Q I rx ry ⟨a, c, xs, ys, rfl, rfl, .inl (.inl t1.at_), .inl (.inl t2.at_), by rw [sizeLine_eq]; omega, fun hx => ?_, fun _ hy => ?_, fun _ _ p hp => ?_⟩
  · subst hx
    exact q H c (Same.refl H) t2
  · subst hy
    exact q H a (Same.refl H) (by rw [List.append_nil]; exact t1)
  · refine q _ p (new_same hp) (.new hb hp fun v hv => ?_)
    rcases List.mem_append.mp hv with z | z
    · exact t1.its v z
    · exact t2.its v z
end
/-- what is drawn from a menu -/
inductive Low (b : Addr) (H : Hp) : V → Prop
  | non : Low b H .non
  | bl (c : Bool) : Low b H (.bl c)
  | int (i : Int) (h : i.natAbs < 10 ^ 50) : Low b H (.int i)
  | str (x : PySem.Str) (h : x.length ≤ 50) (hc : ∀ k ∈ x.cps.toList, k < 16 ^ 8) : Low b H (.str x)
  | lst {a : Addr} {xs : List V} (n : a ≠ b) (h : H a = some (.lst xs)) : Low b H (.ref a)
  | dic {a : Addr} {kvs : List (Key × V)} (n : a ≠ b) (h : H a = some (.dK kvs)) : Low b H (.ref a)
  | tup {a : Addr} {xs : List V} (n : a ≠ b) (h : H a = some (.tup xs)) (hl : xs.length ≤ 4) (k : ∀ v ∈ xs, Low b H v) : Low b H (.ref a)
theorem Low.chg {b : Addr} {H H' : Hp} {v : V} (l : Low b H v) (k : Chb b H H') : Low b H' v := by
  induction l with
  | non => exact .non
  | bl c => exact .bl c
  | int i h => exact .int i h
  | str x h hc => exact .str x h hc
  | lst n h => exact .lst n (k _ _ n h)
  | dic n h => exact .dic n (k _ _ n h)
  | tup n h hl _ ih => exact .tup n (k _ _ n h) hl ih
def isI : V → Bool | .int _ => true | _ => false
def isB : V → Bool | .bl _ => true | _ => false
def isS : V → Bool | .str _ => true | _ => false
theorem kits (K : PySem.W.Frag) : (∀ T ∈ ["NoneType", "bool", "int", "str", "list", "dict", "tuple"], PySem.W.kitOne K (.type T) (.type "int") = some (decide (T = "int" ∨ T = "bool")) ∧ PySem.W.kitOne K (.type T) (.type "bool") = some (decide (T = "bool")) ∧
    PySem.W.kitOne K (.type T) (.type "str") = some (decide (T = "str")) ∧ PySem.W.kitOne K (.type T) (.type "tuple") = some (decide (T = "tuple"))) := by
  intro T hT
  simp only [List.mem_cons, List.mem_nil_iff, or_false, List.not_mem_nil] at hT
  rcases hT with rfl | rfl | rfl | rfl | rfl | rfl | rfl <;> exact ⟨by kernel_rfl, by kernel_rfl, by kernel_rfl, by kernel_rfl⟩
end V1
namespace V1
open PySem PySem.Spec PyProof.Rows L2
abbrev sBag : Stmt := topS 21
abbrev sInteger : Stmt := topS 31
abbrev sOdd : Stmt := topS 32
theorem scBag : FnScope ["script", "cell"] ["script"] (defScope sBag) := ⟨rfl, rfl, rfl, by decide +kernel, rfl, by decide +kernel, by decide +kernel⟩
theorem scInteger : FnScope ["thing"] ["thing"] (defScope sInteger) := ⟨rfl, rfl, rfl, by decide +kernel, rfl, by decide +kernel, by decide +kernel⟩
theorem scOdd : FnScope ["bag", "menu"] ["bag"] (defScope sOdd) := ⟨rfl, rfl, rfl, by decide +kernel, rfl, by decide +kernel, by decide +kernel⟩
/-- of what type a drawn value is -/
theorem Low.ty {b : Addr} {H : Hp} {v : V} (K : PySem.W.Frag) (l : Low b H v) : ∃ T, TyX K H v (.type T) ∧ PySem.W.kitOne K (.type T) (.type "int") = some (isI v || isB v) ∧ PySem.W.kitOne K (.type T) (.type "bool") = some (isB v) ∧
    PySem.W.kitOne K (.type T) (.type "str") = some (isS v) ∧ ∃ c, PySem.W.kitOne K (.type T) (.type "tuple") = some c ∧ (c = true → ∃ a xs, v = .ref a ∧ a ≠ b ∧ H a = some (.tup xs) ∧ xs.length ≤ 4 ∧ ∀ v ∈ xs, Low b H v) := by
  have k := kits K
  cases l with
  | non => obtain ⟨h1, h2, h3, h4⟩ := k "NoneType" (by decide); exact ⟨_, .base .non, h1, h2, h3, _, h4, fun e => absurd e (by decide)⟩
  | bl c => obtain ⟨h1, h2, h3, h4⟩ := k "bool" (by decide); exact ⟨_, .base (.bl c), h1, h2, h3, _, h4, fun e => absurd e (by decide)⟩
  | int i h => obtain ⟨h1, h2, h3, h4⟩ := k "int" (by decide); exact ⟨_, .base (.int i), h1, h2, h3, _, h4, fun e => absurd e (by decide)⟩
  | str x h hc => obtain ⟨h1, h2, h3, h4⟩ := k "str" (by decide); exact ⟨_, .base (.str x), h1, h2, h3, _, h4, fun e => absurd e (by decide)⟩
  | lst n h => obtain ⟨h1, h2, h3, h4⟩ := k "list" (by decide); exact ⟨_, .base (.lst h), h1, h2, h3, _, h4, fun e => absurd e (by decide)⟩
  | dic n h => obtain ⟨h1, h2, h3, h4⟩ := k "dict" (by decide); exact ⟨_, .base (.dK h), h1, h2, h3, _, h4, fun e => absurd e (by decide)⟩
  | tup n h hl hk => obtain ⟨h1, h2, h3, h4⟩ := k "tuple" (by decide); exact ⟨_, .base (.tup h), h1, h2, h3, _, h4, fun _ => ⟨_, _, rfl, n, h, hl, hk⟩⟩
section
variable {P : Program} {w : World} {K : PySem.W.Frag} {mg : PySem.Str → Option Value} {base : Heap}
def spInteger : Sp := fun vs H Q _ => ∃ (b : Addr) (v : V), vs = [v] ∧ Low b H v ∧ Q (.bl (isI v)) H
theorem ok_integer {f : Addr} {fd : FuncData} {k : Nat} (F : Fun K "_law_integer" "_law_integer" sInteger f fd) (mS : mg "isinstance" = none) (mI : mg "int" = none) (mB : mg "bool" = none) : FnOk P w K mg base CX0 (k + 1) f fd ["thing"] spInteger := by
  refine F.ok scInteger (fun vs H Q E h => ?_) (fun cdv A outer s H vs Q E hr h => ?_)
  · obtain ⟨b, v, rfl, _⟩ := h
    rfl
  · obtain ⟨b, v, rfl, l, q⟩ := h
    refine ⟨_, pss_one (ps_ret (pe_and (pe_callB call_isi (by rfl) mS (by decide +kernel) (pa_cons (pv 0) (pa_cons (pe_bltn (v := .ty "int") (u := .type "int") (by rfl) mI (by decide +kernel) rfl) pa_nil)))
      (pe_one (pe_not (pe_callB call_isi (by rfl) mS (by decide +kernel) (pa_cons (pv 0) (pa_cons (pe_bltn (v := .ty "bool") (u := .type "bool") (by rfl) mB (by decide +kernel) rfl) pa_nil))))))), ?_⟩
    obtain ⟨T, ty, t1, t2, _⟩ := l.ty K
    refine ⟨v, rfl, v, .ty "int", _, _, _, rfl, .ty "int", ty, t1, _, rfl, ite2 (fun e => ?_) (fun e => ?_)⟩
    · refine ⟨v, rfl, v, .ty "bool", _, _, _, rfl, .ty "bool", ty, t2, _, rfl, ?_⟩
      cases v <;> first | exact q | (simp [isI, isB] at e)
    · cases v <;> first | exact q | (simp [isI, isB] at e)
def spBag (K : PySem.W.Frag) : Sp := fun vs H Q _ => ∃ (a : Addr) (ns : List Int), vs = [.ref a] ∧ SqL K H a (ns.map V.int) ∧ ns.length ≤ 63 ∧ ∀ H' b, Same H H' → H b = none → Bag H' b → Q (.ref b) H'
theorem ok_bag {f : Addr} {fd : FuncData} {k : Nat} (F : Fun K "_law_bag" "_law_bag" sBag f fd) (mA : mg "abs" = none) : FnOk P w K mg base CX0 (k + 1) f fd ["script"] (spBag K) := by
  refine F.ok scBag (fun vs H Q E h => ?_) (fun cdv A outer s H vs Q E hr h => ?_)
  · obtain ⟨a, ns, rfl, _⟩ := h
    rfl
  · obtain ⟨a, ns, rfl, hS, hl, q⟩ := h
    refine ⟨_, pss_one (ps_ret (pe_lst (pa_cons pe_int (pa_cons pe_int (pa_cons pe_int (pa_cons (pe_lc (own := [("cell", 1)]) (g := gName 1) rfl scBag.nd (pi_list (pe_slice sl_list (pv 0) po_none (po_some pe_int))) (blkOk_by (N := ["script", "cell"]) (sc := defScope sBag) (by decide +kernel))
      (fun _ _ _ _ _ => pg_name (i := 1) scBag.nd rfl (Or.inl rfl)) (fun _ _ _ _ _ => pts_nil) (fun _ _ _ _ _ => pe_callB call_abs (by rfl) mA (by decide +kernel) (pa_cons (pv 1) pa_nil))) pa_nil)))))), ?_⟩
    refine ⟨.ref a, rfl, 63, rfl, a, _, rfl, hS, fun p np => ⟨p, rfl, ⟨_, .inl (.inl upd_same)⟩, fun D nD => ?_⟩⟩
    generalize hzs : cutV (ns.map V.int) none (some 63) = zs at nD ⊢
    have hz : zs.length ≤ 63 := by
      rw [← hzs]
      refine Nat.le_trans (cutV_length _ _ _) ?_
      rw [List.length_map]
      exact hl
    have hint : ∀ v ∈ zs, ∃ c, v = V.int c := by
      intro v hv
      rw [← hzs] at hv
      obtain ⟨c, _, e⟩ := List.mem_map.mp (List.mem_of_mem_drop (List.mem_of_mem_take hv))
      exact ⟨c, e.symm⟩
    have pD : p ≠ D := ne_of_none upd_same nD
    have nDH : H D = none := by
      cases z : H D with
      | none => rfl
      | some o =>
        have := new_ne (u := .lst zs) z np
        rw [nD] at this
        cases this
    refine lc_list (K := K) (a := p) (xs := zs) (fun i Hc => ∃ cs : List Int, Hc D = some (.lst (cs.map V.int)) ∧ cs.length = i ∧ (∀ c ∈ cs, 0 ≤ c) ∧ Same H Hc ∧ Hc p = some (.lst zs))
      ⟨[], upd_same, rfl, fun c hc => (by cases hc), (new_same np).trans (new_same nD), new_ne upd_same nD⟩ (fun i Hc _ ⟨cs, _, _, _, _, hp⟩ => .inl (.inl hp)) (fun i x Hc hx ⟨cs, h1, h2, h3, h4, h5⟩ => ?_) (fun Hc ⟨cs, h1, h2, h3, h4, h5⟩ => ?_)
    · obtain ⟨c, rfl⟩ := hint x (List.mem_of_getElem? hx)
      refine ⟨rfl, _, rfl, c, rfl, cs.map V.int, h1, ?_, cs ++ [if c < 0 then -c else c], ?_, ?_, fun z hz => ?_, ?_, ?_⟩
      · have := (List.getElem?_eq_some_iff.mp hx).1
        rw [List.length_map, sizeLine_eq]
        omega
      · rw [upd_same, List.map_append]
        rfl
      · rw [List.length_append, h2]
        rfl
      · rcases List.mem_append.mp hz with e | e
        · exact h3 z e
        · rw [List.mem_singleton] at e
          subst e
          split <;> omega
      · intro y o e
        have : y ≠ D := ne_of_none e nDH
        rw [upd_ne this]
        exact h4 y o e
      · rw [upd_ne pD]
        exact h5
    · refine ⟨by show 4 ≤ sizeLine; decide, fun b nb => q _ b (h4.trans (new_same nb)) ?_ ⟨0, 1234567891, 0, D, cs, upd_same, ?_, ne_of_none h1 nb, by decide, by decide, by decide, by omega, h3⟩⟩
      · cases z : H b with
        | none => rfl
        | some o =>
          have := h4 b o z
          rw [nb] at this
          cases this
      · exact new_ne h1 nb
end
end V1
namespace V1
open PySem PySem.Spec PyProof.Rows L2
theorem all_cons {α : Type} {F : α → Prop} {x : α} {xs : List α} (h : F x) (t : ∀ v ∈ xs, F v) : ∀ v ∈ x :: xs, F v := fun v hv => by
  rcases List.mem_cons.mp hv with e | e
  · exact e ▸ h
  · exact t v e
theorem Bag.same {b : Addr} {H H' : Hp} (B : Bag H b) (s : Same H H') : Bag H' b := by
  obtain ⟨n, m, k, l, cs, hb, hl, r⟩ := B
  exact ⟨n, m, k, l, cs, s _ _ hb, s _ _ hl, r⟩
section
variable {b p : Addr} {H : Hp} {o : HO} {d B : Nat} {xs : List V}
theorem pv_non : Pv b H 0 10 .non := ⟨_, _, _, .non .nil, by decide, by simp⟩
theorem pv_bl (c : Bool) : Pv b H 0 10 (.bl c) := ⟨_, _, _, .bl c .nil, by decide, by simp⟩
theorem pv_int {i : Int} (h : i.natAbs < 10 ^ 60) : Pv b H 0 70 (.int i) := ⟨_, _, _, .int i h .nil, by decide, by simp⟩
theorem pv_str {x : PySem.Str} (h : x.length ≤ 100) (hc : ∀ k ∈ x.cps.toList, k < 16 ^ 8) : Pv b H 0 1010 (.str x) := ⟨_, _, _, .str x h hc .nil, by decide, by simp⟩
theorem Gd.tup (hb : H b = some o) (hp : H p = none) (hl : xs.length ≤ 4) (lo : ∀ v ∈ xs, Low b H v) (k : ∀ v ∈ xs, Pv b H d B v) {T : Nat} (hT : 10 + B * xs.length ≤ T) : Low b (upd H p (.tup xs)) (.ref p) ∧ Pv b (upd H p (.tup xs)) (d + 1) T (.ref p) :=
  ⟨.tup (ne_new hb hp).symm upd_same hl fun v hv => (lo v hv).chg (Chb.new hp), (Pv.tup_new hb hp k).mono (Nat.le_refl _) hT⟩
theorem Gd.lst (hb : H b = some o) (hp : H p = none) (k : ∀ v ∈ xs, Pv b H d B v) {T : Nat} (hT : 10 + B * xs.length ≤ T) : Low b (upd H p (.lst xs)) (.ref p) ∧ Pv b (upd H p (.lst xs)) (d + 1) T (.ref p) :=
  ⟨.lst (ne_new hb hp).symm upd_same, (Pv.lst_new hb hp k).mono (Nat.le_refl _) hT⟩
theorem Gd.dic0 (hb : H b = some o) (hp : H p = none) : Low b (upd H p (.dK [])) (.ref p) ∧ Pv b (upd H p (.dK [])) 1 10 (.ref p) :=
  ⟨.dic (ne_new hb hp).symm upd_same, ⟨_, _, _, .dic (d := 0) [] upd_same (fun p hp => by cases hp) .nil (by simp) .nil, by decide, by simpa using ne_new hb hp⟩⟩
theorem Gd.dic1 (hb : H b = some o) (hp : H p = none) : Low b (upd H p (.dK [(Sum.inr "a", .int 1)])) (.ref p) ∧ Pv b (upd H p (.dK [(Sum.inr "a", .int 1)])) 1 1090 (.ref p) :=
  ⟨.dic (ne_new hb hp).symm upd_same, ⟨_, _, _, .dic (d := 0) [("a", .int 1)] upd_same (all_cons ⟨by decide +kernel, by decide +kernel⟩ fun p hp => by cases hp) (.int 1 (by decide +kernel) .nil) (by simp) .nil, by decide, by simpa using ne_new hb hp⟩⟩
end
section
variable {P : Program} {w : World} {K : PySem.W.Frag} {mg : PySem.Str → Option Value} {base : Heap}
def spOdd : Sp := fun vs H Q _ => ∃ b : Addr, vs = [.ref b] ∧ Bag H b ∧ ∀ H' v, Chb b H H' → Bag H' b → Low b H' v → Pv b H' 3 4100 v → Q v H'
theorem ok_odd {f fO fT : Addr} {fd fdO fdT : FuncData} {k : Nat} (F : Fun K "_law_odd" "_law_odd" sOdd f fd) (FO : Fun K "_law_one" "_law_one" sOne fO fdO) (bO : Binds K fdO ["bag", "things"] []) (gO : mg "_law_one" = some (.ref fO))
    (FT : Fun K "_law_take" "_law_take" sTake fT fdT) (bT : Binds K fdT ["bag", "many"] []) (gT : mg "_law_take" = some (.ref fT)) (mI : mg "int" = none) (mL : mg "len" = none) : FnOk P w K mg base CX0 (k + 3) f fd ["bag"] spOdd := by
  have GO : FnOk P w K mg base CX0 (k + 2) fO fdO ["bag", "things"] spOne := ok_one FO FT bT gT mI mL
  refine F.ok scOdd (fun vs H Q E h => ?_) (fun cdv A outer s H vs Q E hr h => ?_)
  · obtain ⟨b, rfl, _⟩ := h
    rfl
  · obtain ⟨b, rfl, hB, q⟩ := h
    refine ⟨_, pss_cons (ps_set (i := 1) scOdd.nd rfl (.inl rfl) (pe_lst (pa_cons pe_non (pa_cons pe_bl (pa_cons pe_bl (pa_cons pe_int (pa_cons pe_int (pa_cons (pe_un un_neg pe_int) (pa_cons (pe_op op_pow pe_int pe_int) (pa_cons pe_str (pa_cons pe_str (pa_cons pe_str (pa_cons pe_str (pa_cons (pe_tup pa_nil) (pa_cons (pe_lst pa_nil) (pa_cons pe_dnewK (pa_cons (pe_tup (pa_cons pe_int (pa_cons pe_int (pa_cons pe_int pa_nil)))) (pa_cons (pe_tup (pa_cons (pe_tup (pa_cons pe_int (pa_cons pe_int (pa_cons pe_int pa_nil)))) (pa_cons pe_non pa_nil))) pa_nil))))))))))))))))))
      (pss_one (ps_ret (pe_call GO hr (by rfl) gO FO.kp bO .nil pass0 (pa_cons (pv 0) (pa_cons (pe_op op_cat (pv 1) (pe_lst (pa_cons (pe_tup (pa_cons (pe_tup (pa_cons (pe_tup (pa_cons pe_int (pa_cons pe_int (pa_cons pe_int pa_nil)))) (pa_cons pe_non pa_nil))) pa_nil)) (pa_cons (pe_tup (pa_cons pe_str (pa_cons (pe_tup pa_nil) (pa_cons (pe_tup pa_nil) (pa_cons pe_bl pa_nil))))) (pa_cons (pe_disp (pps_cons pe_str pe_int pps_nil) (by rfl) (by rfl) (fun z => by cases z) (by decide)) (pa_cons (pe_lst (pa_cons (pe_tup (pa_cons pe_str pa_nil)) pa_nil)) (pa_cons pe_str (pa_cons pe_str pa_nil)))))))) pa_nil))))), ?_⟩
    obtain ⟨ob, hb⟩ : ∃ o, H b = some o := by obtain ⟨n, m, k, l, cs, hb, _⟩ := hB; exact ⟨_, hb⟩
    obtain ⟨H0, hC, q⟩ : ∃ H0 : Hp, Chb b H0 H ∧ ∀ H' v, Chb b H0 H' → Bag H' b → Low b H' v → Pv b H' 3 4100 v → Q v H' := ⟨H, Chb.refl, q⟩
    refine ⟨1, rfl, 10, 39, rfl, rfl, ⟨by decide, by decide, by decide⟩, ⟨(by show 0 ≤ sizeLine; decide), fun p1 n1 => ?_⟩⟩
    have b1 := new_ne (u := .tup []) hb n1
    have g1 : Low b (upd H p1 (.tup [])) (.ref p1) ∧ Pv b (upd H p1 (.tup [])) 1 10 (.ref p1) := Gd.tup hb n1 (d := 0) (B := 0) (by simp) (fun v hv => by cases hv) (fun v hv => by cases hv) (by simp)
    have s1 : Same H (upd H p1 (.tup [])) := new_same n1
    replace hB := hB.same s1
    replace hC := hC.trans (Chb.same s1)
    clear s1 n1
    generalize upd H p1 (.tup []) = H1 at *
    refine ⟨(by show 0 ≤ sizeLine; decide), fun p2 n2 => ?_⟩
    have b2 := new_ne (u := .lst []) b1 n2
    have g2 : Low b (upd H1 p2 (.lst [])) (.ref p2) ∧ Pv b (upd H1 p2 (.lst [])) 1 10 (.ref p2) := Gd.lst b1 n2 (d := 0) (B := 0) (fun v hv => by cases hv) (by simp)
    have s2 : Same H1 (upd H1 p2 (.lst [])) := new_same n2
    replace hB := hB.same s2
    replace g1 := And.intro (g1.1.chg (Chb.same s2)) (g1.2.chg (Chb.same s2))
    replace hC := hC.trans (Chb.same s2)
    clear s2 n2
    generalize upd H1 p2 (.lst []) = H2 at *
    intro p3 n3
    have b3 := new_ne (u := .dK []) b2 n3
    have g3 : Low b (upd H2 p3 (.dK [])) (.ref p3) ∧ Pv b (upd H2 p3 (.dK [])) 1 10 (.ref p3) := Gd.dic0 b2 n3
    have s3 : Same H2 (upd H2 p3 (.dK [])) := new_same n3
    replace hB := hB.same s3
    replace g1 := And.intro (g1.1.chg (Chb.same s3)) (g1.2.chg (Chb.same s3))
    replace g2 := And.intro (g2.1.chg (Chb.same s3)) (g2.2.chg (Chb.same s3))
    replace hC := hC.trans (Chb.same s3)
    clear s3 n3
    generalize upd H2 p3 (.dK []) = H3 at *
    refine ⟨(by show 3 ≤ sizeLine; decide), fun p4 n4 => ?_⟩
    have b4 := new_ne (u := .tup [.int 0, .int 0, .int 0]) b3 n4
    have g4 : Low b (upd H3 p4 (.tup [.int 0, .int 0, .int 0])) (.ref p4) ∧ Pv b (upd H3 p4 (.tup [.int 0, .int 0, .int 0])) 1 220 (.ref p4) := Gd.tup b3 n4 (d := 0) (B := 70) (by simp) (all_cons (Low.int _ (by decide +kernel)) (all_cons (Low.int _ (by decide +kernel)) (all_cons (Low.int _ (by decide +kernel)) (fun v hv => by cases hv)))) (all_cons ((pv_int (by decide +kernel)).mono (by decide) (by decide)) (all_cons ((pv_int (by decide +kernel)).mono (by decide) (by decide)) (all_cons ((pv_int (by decide +kernel)).mono (by decide) (by decide)) (fun v hv => by cases hv)))) (by simp)
    have s4 : Same H3 (upd H3 p4 (.tup [.int 0, .int 0, .int 0])) := new_same n4
    replace hB := hB.same s4
    replace g1 := And.intro (g1.1.chg (Chb.same s4)) (g1.2.chg (Chb.same s4))
    replace g2 := And.intro (g2.1.chg (Chb.same s4)) (g2.2.chg (Chb.same s4))
    replace g3 := And.intro (g3.1.chg (Chb.same s4)) (g3.2.chg (Chb.same s4))
    replace hC := hC.trans (Chb.same s4)
    clear s4 n4
    generalize upd H3 p4 (.tup [.int 0, .int 0, .int 0]) = H4 at *
    refine ⟨(by show 3 ≤ sizeLine; decide), fun p5 n5 => ?_⟩
    have b5 := new_ne (u := .tup [.int 0, .int 0, .int 0]) b4 n5
    have g5 : Low b (upd H4 p5 (.tup [.int 0, .int 0, .int 0])) (.ref p5) ∧ Pv b (upd H4 p5 (.tup [.int 0, .int 0, .int 0])) 1 220 (.ref p5) := Gd.tup b4 n5 (d := 0) (B := 70) (by simp) (all_cons (Low.int _ (by decide +kernel)) (all_cons (Low.int _ (by decide +kernel)) (all_cons (Low.int _ (by decide +kernel)) (fun v hv => by cases hv)))) (all_cons ((pv_int (by decide +kernel)).mono (by decide) (by decide)) (all_cons ((pv_int (by decide +kernel)).mono (by decide) (by decide)) (all_cons ((pv_int (by decide +kernel)).mono (by decide) (by decide)) (fun v hv => by cases hv)))) (by simp)
    have s5 : Same H4 (upd H4 p5 (.tup [.int 0, .int 0, .int 0])) := new_same n5
    replace hB := hB.same s5
    replace g1 := And.intro (g1.1.chg (Chb.same s5)) (g1.2.chg (Chb.same s5))
    replace g2 := And.intro (g2.1.chg (Chb.same s5)) (g2.2.chg (Chb.same s5))
    replace g3 := And.intro (g3.1.chg (Chb.same s5)) (g3.2.chg (Chb.same s5))
    replace g4 := And.intro (g4.1.chg (Chb.same s5)) (g4.2.chg (Chb.same s5))
    replace hC := hC.trans (Chb.same s5)
    clear s5 n5
    generalize upd H4 p5 (.tup [.int 0, .int 0, .int 0]) = H5 at *
    refine ⟨(by show 2 ≤ sizeLine; decide), fun p6 n6 => ?_⟩
    have b6 := new_ne (u := .tup [.ref p5, .non]) b5 n6
    have g6 : Low b (upd H5 p6 (.tup [.ref p5, .non])) (.ref p6) ∧ Pv b (upd H5 p6 (.tup [.ref p5, .non])) 2 450 (.ref p6) := Gd.tup b5 n6 (d := 1) (B := 220) (by simp) (all_cons g5.1 (all_cons Low.non (fun v hv => by cases hv))) (all_cons (g5.2.mono (by decide) (by decide)) (all_cons (pv_non.mono (by decide) (by decide)) (fun v hv => by cases hv))) (by simp)
    have s6 : Same H5 (upd H5 p6 (.tup [.ref p5, .non])) := new_same n6
    replace hB := hB.same s6
    replace g1 := And.intro (g1.1.chg (Chb.same s6)) (g1.2.chg (Chb.same s6))
    replace g2 := And.intro (g2.1.chg (Chb.same s6)) (g2.2.chg (Chb.same s6))
    replace g3 := And.intro (g3.1.chg (Chb.same s6)) (g3.2.chg (Chb.same s6))
    replace g4 := And.intro (g4.1.chg (Chb.same s6)) (g4.2.chg (Chb.same s6))
    replace g5 := And.intro (g5.1.chg (Chb.same s6)) (g5.2.chg (Chb.same s6))
    replace hC := hC.trans (Chb.same s6)
    clear s6 n6
    generalize upd H5 p6 (.tup [.ref p5, .non]) = H6 at *
    refine ⟨(by show 16 ≤ sizeLine; decide), fun p7 n7 => ?_⟩
    have b7 := new_ne (u := .lst [.non, .bl true, .bl false, .int 0, .int 1, .int (-1), .int (10 ^ (39 : Int).toNat), .str "", .str "a", .str "A", .str "core", .ref p1, .ref p2, .ref p3, .ref p4, .ref p6]) b6 n7
    have s7 : Same H6 (upd H6 p7 (.lst [.non, .bl true, .bl false, .int 0, .int 1, .int (-1), .int (10 ^ (39 : Int).toNat), .str "", .str "a", .str "A", .str "core", .ref p1, .ref p2, .ref p3, .ref p4, .ref p6])) := new_same n7
    replace hB := hB.same s7
    replace g1 := And.intro (g1.1.chg (Chb.same s7)) (g1.2.chg (Chb.same s7))
    replace g2 := And.intro (g2.1.chg (Chb.same s7)) (g2.2.chg (Chb.same s7))
    replace g3 := And.intro (g3.1.chg (Chb.same s7)) (g3.2.chg (Chb.same s7))
    replace g4 := And.intro (g4.1.chg (Chb.same s7)) (g4.2.chg (Chb.same s7))
    replace g5 := And.intro (g5.1.chg (Chb.same s7)) (g5.2.chg (Chb.same s7))
    replace g6 := And.intro (g6.1.chg (Chb.same s7)) (g6.2.chg (Chb.same s7))
    replace hC := hC.trans (Chb.same s7)
    have m7 : (upd H6 p7 (.lst [.non, .bl true, .bl false, .int 0, .int 1, .int (-1), .int (10 ^ (39 : Int).toNat), .str "", .str "a", .str "A", .str "core", .ref p1, .ref p2, .ref p3, .ref p4, .ref p6])) p7 = some (.lst [.non, .bl true, .bl false, .int 0, .int 1, .int (-1), .int (10 ^ (39 : Int).toNat), .str "", .str "a", .str "A", .str "core", .ref p1, .ref p2, .ref p3, .ref p4, .ref p6]) := upd_same
    clear s7 n7
    generalize upd H6 p7 (.lst [.non, .bl true, .bl false, .int 0, .int 1, .int (-1), .int (10 ^ (39 : Int).toNat), .str "", .str "a", .str "A", .str "core", .ref p1, .ref p2, .ref p3, .ref p4, .ref p6]) = H7 at *
    refine ⟨.ref b, rfl, .ref p7, rfl, ⟨(by show 3 ≤ sizeLine; decide), fun p8 n8 => ?_⟩⟩
    have b8 := new_ne (u := .tup [.int 0, .int 0, .int 0]) b7 n8
    have g8 : Low b (upd H7 p8 (.tup [.int 0, .int 0, .int 0])) (.ref p8) ∧ Pv b (upd H7 p8 (.tup [.int 0, .int 0, .int 0])) 1 220 (.ref p8) := Gd.tup b7 n8 (d := 0) (B := 70) (by simp) (all_cons (Low.int _ (by decide +kernel)) (all_cons (Low.int _ (by decide +kernel)) (all_cons (Low.int _ (by decide +kernel)) (fun v hv => by cases hv)))) (all_cons ((pv_int (by decide +kernel)).mono (by decide) (by decide)) (all_cons ((pv_int (by decide +kernel)).mono (by decide) (by decide)) (all_cons ((pv_int (by decide +kernel)).mono (by decide) (by decide)) (fun v hv => by cases hv)))) (by simp)
    have s8 : Same H7 (upd H7 p8 (.tup [.int 0, .int 0, .int 0])) := new_same n8
    replace hB := hB.same s8
    replace g1 := And.intro (g1.1.chg (Chb.same s8)) (g1.2.chg (Chb.same s8))
    replace g2 := And.intro (g2.1.chg (Chb.same s8)) (g2.2.chg (Chb.same s8))
    replace g3 := And.intro (g3.1.chg (Chb.same s8)) (g3.2.chg (Chb.same s8))
    replace g4 := And.intro (g4.1.chg (Chb.same s8)) (g4.2.chg (Chb.same s8))
    replace g5 := And.intro (g5.1.chg (Chb.same s8)) (g5.2.chg (Chb.same s8))
    replace g6 := And.intro (g6.1.chg (Chb.same s8)) (g6.2.chg (Chb.same s8))
    replace m7 := s8 _ _ m7
    replace hC := hC.trans (Chb.same s8)
    clear s8 n8
    generalize upd H7 p8 (.tup [.int 0, .int 0, .int 0]) = H8 at *
    refine ⟨(by show 2 ≤ sizeLine; decide), fun p9 n9 => ?_⟩
    have b9 := new_ne (u := .tup [.ref p8, .non]) b8 n9
    have g9 : Low b (upd H8 p9 (.tup [.ref p8, .non])) (.ref p9) ∧ Pv b (upd H8 p9 (.tup [.ref p8, .non])) 2 450 (.ref p9) := Gd.tup b8 n9 (d := 1) (B := 220) (by simp) (all_cons g8.1 (all_cons Low.non (fun v hv => by cases hv))) (all_cons (g8.2.mono (by decide) (by decide)) (all_cons (pv_non.mono (by decide) (by decide)) (fun v hv => by cases hv))) (by simp)
    have s9 : Same H8 (upd H8 p9 (.tup [.ref p8, .non])) := new_same n9
    replace hB := hB.same s9
    replace g1 := And.intro (g1.1.chg (Chb.same s9)) (g1.2.chg (Chb.same s9))
    replace g2 := And.intro (g2.1.chg (Chb.same s9)) (g2.2.chg (Chb.same s9))
    replace g3 := And.intro (g3.1.chg (Chb.same s9)) (g3.2.chg (Chb.same s9))
    replace g4 := And.intro (g4.1.chg (Chb.same s9)) (g4.2.chg (Chb.same s9))
    replace g5 := And.intro (g5.1.chg (Chb.same s9)) (g5.2.chg (Chb.same s9))
    replace g6 := And.intro (g6.1.chg (Chb.same s9)) (g6.2.chg (Chb.same s9))
    replace m7 := s9 _ _ m7
    replace g8 := And.intro (g8.1.chg (Chb.same s9)) (g8.2.chg (Chb.same s9))
    replace hC := hC.trans (Chb.same s9)
    clear s9 n9
    generalize upd H8 p9 (.tup [.ref p8, .non]) = H9 at *
    refine ⟨(by show 1 ≤ sizeLine; decide), fun p10 n10 => ?_⟩
    have b10 := new_ne (u := .tup [.ref p9]) b9 n10
    have g10 : Low b (upd H9 p10 (.tup [.ref p9])) (.ref p10) ∧ Pv b (upd H9 p10 (.tup [.ref p9])) 3 460 (.ref p10) := Gd.tup b9 n10 (d := 2) (B := 450) (by simp) (all_cons g9.1 (fun v hv => by cases hv)) (all_cons (g9.2.mono (by decide) (by decide)) (fun v hv => by cases hv)) (by simp)
    have s10 : Same H9 (upd H9 p10 (.tup [.ref p9])) := new_same n10
    replace hB := hB.same s10
    replace g1 := And.intro (g1.1.chg (Chb.same s10)) (g1.2.chg (Chb.same s10))
    replace g2 := And.intro (g2.1.chg (Chb.same s10)) (g2.2.chg (Chb.same s10))
    replace g3 := And.intro (g3.1.chg (Chb.same s10)) (g3.2.chg (Chb.same s10))
    replace g4 := And.intro (g4.1.chg (Chb.same s10)) (g4.2.chg (Chb.same s10))
    replace g5 := And.intro (g5.1.chg (Chb.same s10)) (g5.2.chg (Chb.same s10))
    replace g6 := And.intro (g6.1.chg (Chb.same s10)) (g6.2.chg (Chb.same s10))
    replace m7 := s10 _ _ m7
    replace g8 := And.intro (g8.1.chg (Chb.same s10)) (g8.2.chg (Chb.same s10))
    replace g9 := And.intro (g9.1.chg (Chb.same s10)) (g9.2.chg (Chb.same s10))
    replace hC := hC.trans (Chb.same s10)
    clear s10 n10
    generalize upd H9 p10 (.tup [.ref p9]) = H10 at *
    refine ⟨(by show 0 ≤ sizeLine; decide), fun p11 n11 => ?_⟩
    have b11 := new_ne (u := .tup []) b10 n11
    have g11 : Low b (upd H10 p11 (.tup [])) (.ref p11) ∧ Pv b (upd H10 p11 (.tup [])) 1 10 (.ref p11) := Gd.tup b10 n11 (d := 0) (B := 0) (by simp) (fun v hv => by cases hv) (fun v hv => by cases hv) (by simp)
    have s11 : Same H10 (upd H10 p11 (.tup [])) := new_same n11
    replace hB := hB.same s11
    replace g1 := And.intro (g1.1.chg (Chb.same s11)) (g1.2.chg (Chb.same s11))
    replace g2 := And.intro (g2.1.chg (Chb.same s11)) (g2.2.chg (Chb.same s11))
    replace g3 := And.intro (g3.1.chg (Chb.same s11)) (g3.2.chg (Chb.same s11))
    replace g4 := And.intro (g4.1.chg (Chb.same s11)) (g4.2.chg (Chb.same s11))
    replace g5 := And.intro (g5.1.chg (Chb.same s11)) (g5.2.chg (Chb.same s11))
    replace g6 := And.intro (g6.1.chg (Chb.same s11)) (g6.2.chg (Chb.same s11))
    replace m7 := s11 _ _ m7
    replace g8 := And.intro (g8.1.chg (Chb.same s11)) (g8.2.chg (Chb.same s11))
    replace g9 := And.intro (g9.1.chg (Chb.same s11)) (g9.2.chg (Chb.same s11))
    replace g10 := And.intro (g10.1.chg (Chb.same s11)) (g10.2.chg (Chb.same s11))
    replace hC := hC.trans (Chb.same s11)
    clear s11 n11
    generalize upd H10 p11 (.tup []) = H11 at *
    refine ⟨(by show 0 ≤ sizeLine; decide), fun p12 n12 => ?_⟩
    have b12 := new_ne (u := .tup []) b11 n12
    have g12 : Low b (upd H11 p12 (.tup [])) (.ref p12) ∧ Pv b (upd H11 p12 (.tup [])) 1 10 (.ref p12) := Gd.tup b11 n12 (d := 0) (B := 0) (by simp) (fun v hv => by cases hv) (fun v hv => by cases hv) (by simp)
    have s12 : Same H11 (upd H11 p12 (.tup [])) := new_same n12
    replace hB := hB.same s12
    replace g1 := And.intro (g1.1.chg (Chb.same s12)) (g1.2.chg (Chb.same s12))
    replace g2 := And.intro (g2.1.chg (Chb.same s12)) (g2.2.chg (Chb.same s12))
    replace g3 := And.intro (g3.1.chg (Chb.same s12)) (g3.2.chg (Chb.same s12))
    replace g4 := And.intro (g4.1.chg (Chb.same s12)) (g4.2.chg (Chb.same s12))
    replace g5 := And.intro (g5.1.chg (Chb.same s12)) (g5.2.chg (Chb.same s12))
    replace g6 := And.intro (g6.1.chg (Chb.same s12)) (g6.2.chg (Chb.same s12))
    replace m7 := s12 _ _ m7
    replace g8 := And.intro (g8.1.chg (Chb.same s12)) (g8.2.chg (Chb.same s12))
    replace g9 := And.intro (g9.1.chg (Chb.same s12)) (g9.2.chg (Chb.same s12))
    replace g10 := And.intro (g10.1.chg (Chb.same s12)) (g10.2.chg (Chb.same s12))
    replace g11 := And.intro (g11.1.chg (Chb.same s12)) (g11.2.chg (Chb.same s12))
    replace hC := hC.trans (Chb.same s12)
    clear s12 n12
    generalize upd H11 p12 (.tup []) = H12 at *
    refine ⟨(by show 4 ≤ sizeLine; decide), fun p13 n13 => ?_⟩
    have b13 := new_ne (u := .tup [.str "a", .ref p11, .ref p12, .bl true]) b12 n13
    have g13 : Low b (upd H12 p13 (.tup [.str "a", .ref p11, .ref p12, .bl true])) (.ref p13) ∧ Pv b (upd H12 p13 (.tup [.str "a", .ref p11, .ref p12, .bl true])) 2 4050 (.ref p13) := Gd.tup b12 n13 (d := 1) (B := 1010) (by simp) (all_cons (Low.str _ (by decide +kernel) (by decide +kernel)) (all_cons g11.1 (all_cons g12.1 (all_cons (Low.bl _) (fun v hv => by cases hv))))) (all_cons ((pv_str (by decide +kernel) (by decide +kernel)).mono (by decide) (by decide)) (all_cons (g11.2.mono (by decide) (by decide)) (all_cons (g12.2.mono (by decide) (by decide)) (all_cons ((pv_bl _).mono (by decide) (by decide)) (fun v hv => by cases hv))))) (by simp)
    have s13 : Same H12 (upd H12 p13 (.tup [.str "a", .ref p11, .ref p12, .bl true])) := new_same n13
    replace hB := hB.same s13
    replace g1 := And.intro (g1.1.chg (Chb.same s13)) (g1.2.chg (Chb.same s13))
    replace g2 := And.intro (g2.1.chg (Chb.same s13)) (g2.2.chg (Chb.same s13))
    replace g3 := And.intro (g3.1.chg (Chb.same s13)) (g3.2.chg (Chb.same s13))
    replace g4 := And.intro (g4.1.chg (Chb.same s13)) (g4.2.chg (Chb.same s13))
    replace g5 := And.intro (g5.1.chg (Chb.same s13)) (g5.2.chg (Chb.same s13))
    replace g6 := And.intro (g6.1.chg (Chb.same s13)) (g6.2.chg (Chb.same s13))
    replace m7 := s13 _ _ m7
    replace g8 := And.intro (g8.1.chg (Chb.same s13)) (g8.2.chg (Chb.same s13))
    replace g9 := And.intro (g9.1.chg (Chb.same s13)) (g9.2.chg (Chb.same s13))
    replace g10 := And.intro (g10.1.chg (Chb.same s13)) (g10.2.chg (Chb.same s13))
    replace g11 := And.intro (g11.1.chg (Chb.same s13)) (g11.2.chg (Chb.same s13))
    replace g12 := And.intro (g12.1.chg (Chb.same s13)) (g12.2.chg (Chb.same s13))
    replace hC := hC.trans (Chb.same s13)
    clear s13 n13
    generalize upd H12 p13 (.tup [.str "a", .ref p11, .ref p12, .bl true]) = H13 at *
    intro p14 n14
    refine ⟨upd_same, [(Sum.inr "a", .int 1)], rfl, by decide, ?_⟩
    rw [upd_upd, show mergeK [] [((Sum.inr "a" : Key), V.int 1)] = [((Sum.inr "a" : Key), V.int 1)] from by first | rfl | simp [mergeK, putK]]
    have b14 := new_ne (u := .dK [(Sum.inr "a", .int 1)]) b13 n14
    have g14 : Low b (upd H13 p14 (.dK [(Sum.inr "a", .int 1)])) (.ref p14) ∧ Pv b (upd H13 p14 (.dK [(Sum.inr "a", .int 1)])) 1 1090 (.ref p14) := Gd.dic1 b13 n14
    have s14 : Same H13 (upd H13 p14 (.dK [(Sum.inr "a", .int 1)])) := new_same n14
    replace hB := hB.same s14
    replace g1 := And.intro (g1.1.chg (Chb.same s14)) (g1.2.chg (Chb.same s14))
    replace g2 := And.intro (g2.1.chg (Chb.same s14)) (g2.2.chg (Chb.same s14))
    replace g3 := And.intro (g3.1.chg (Chb.same s14)) (g3.2.chg (Chb.same s14))
    replace g4 := And.intro (g4.1.chg (Chb.same s14)) (g4.2.chg (Chb.same s14))
    replace g5 := And.intro (g5.1.chg (Chb.same s14)) (g5.2.chg (Chb.same s14))
    replace g6 := And.intro (g6.1.chg (Chb.same s14)) (g6.2.chg (Chb.same s14))
    replace m7 := s14 _ _ m7
    replace g8 := And.intro (g8.1.chg (Chb.same s14)) (g8.2.chg (Chb.same s14))
    replace g9 := And.intro (g9.1.chg (Chb.same s14)) (g9.2.chg (Chb.same s14))
    replace g10 := And.intro (g10.1.chg (Chb.same s14)) (g10.2.chg (Chb.same s14))
    replace g11 := And.intro (g11.1.chg (Chb.same s14)) (g11.2.chg (Chb.same s14))
    replace g12 := And.intro (g12.1.chg (Chb.same s14)) (g12.2.chg (Chb.same s14))
    replace g13 := And.intro (g13.1.chg (Chb.same s14)) (g13.2.chg (Chb.same s14))
    replace hC := hC.trans (Chb.same s14)
    clear s14 n14
    generalize upd H13 p14 (.dK [(Sum.inr "a", .int 1)]) = H14 at *
    refine ⟨(by show 1 ≤ sizeLine; decide), fun p15 n15 => ?_⟩
    have b15 := new_ne (u := .tup [.str "a"]) b14 n15
    have g15 : Low b (upd H14 p15 (.tup [.str "a"])) (.ref p15) ∧ Pv b (upd H14 p15 (.tup [.str "a"])) 1 1020 (.ref p15) := Gd.tup b14 n15 (d := 0) (B := 1010) (by simp) (all_cons (Low.str _ (by decide +kernel) (by decide +kernel)) (fun v hv => by cases hv)) (all_cons ((pv_str (by decide +kernel) (by decide +kernel)).mono (by decide) (by decide)) (fun v hv => by cases hv)) (by simp)
    have s15 : Same H14 (upd H14 p15 (.tup [.str "a"])) := new_same n15
    replace hB := hB.same s15
    replace g1 := And.intro (g1.1.chg (Chb.same s15)) (g1.2.chg (Chb.same s15))
    replace g2 := And.intro (g2.1.chg (Chb.same s15)) (g2.2.chg (Chb.same s15))
    replace g3 := And.intro (g3.1.chg (Chb.same s15)) (g3.2.chg (Chb.same s15))
    replace g4 := And.intro (g4.1.chg (Chb.same s15)) (g4.2.chg (Chb.same s15))
    replace g5 := And.intro (g5.1.chg (Chb.same s15)) (g5.2.chg (Chb.same s15))
    replace g6 := And.intro (g6.1.chg (Chb.same s15)) (g6.2.chg (Chb.same s15))
    replace m7 := s15 _ _ m7
    replace g8 := And.intro (g8.1.chg (Chb.same s15)) (g8.2.chg (Chb.same s15))
    replace g9 := And.intro (g9.1.chg (Chb.same s15)) (g9.2.chg (Chb.same s15))
    replace g10 := And.intro (g10.1.chg (Chb.same s15)) (g10.2.chg (Chb.same s15))
    replace g11 := And.intro (g11.1.chg (Chb.same s15)) (g11.2.chg (Chb.same s15))
    replace g12 := And.intro (g12.1.chg (Chb.same s15)) (g12.2.chg (Chb.same s15))
    replace g13 := And.intro (g13.1.chg (Chb.same s15)) (g13.2.chg (Chb.same s15))
    replace g14 := And.intro (g14.1.chg (Chb.same s15)) (g14.2.chg (Chb.same s15))
    replace hC := hC.trans (Chb.same s15)
    clear s15 n15
    generalize upd H14 p15 (.tup [.str "a"]) = H15 at *
    refine ⟨(by show 1 ≤ sizeLine; decide), fun p16 n16 => ?_⟩
    have b16 := new_ne (u := .lst [.ref p15]) b15 n16
    have g16 : Low b (upd H15 p16 (.lst [.ref p15])) (.ref p16) ∧ Pv b (upd H15 p16 (.lst [.ref p15])) 2 1030 (.ref p16) := Gd.lst b15 n16 (d := 1) (B := 1020) (all_cons (g15.2.mono (by decide) (by decide)) (fun v hv => by cases hv)) (by simp)
    have s16 : Same H15 (upd H15 p16 (.lst [.ref p15])) := new_same n16
    replace hB := hB.same s16
    replace g1 := And.intro (g1.1.chg (Chb.same s16)) (g1.2.chg (Chb.same s16))
    replace g2 := And.intro (g2.1.chg (Chb.same s16)) (g2.2.chg (Chb.same s16))
    replace g3 := And.intro (g3.1.chg (Chb.same s16)) (g3.2.chg (Chb.same s16))
    replace g4 := And.intro (g4.1.chg (Chb.same s16)) (g4.2.chg (Chb.same s16))
    replace g5 := And.intro (g5.1.chg (Chb.same s16)) (g5.2.chg (Chb.same s16))
    replace g6 := And.intro (g6.1.chg (Chb.same s16)) (g6.2.chg (Chb.same s16))
    replace m7 := s16 _ _ m7
    replace g8 := And.intro (g8.1.chg (Chb.same s16)) (g8.2.chg (Chb.same s16))
    replace g9 := And.intro (g9.1.chg (Chb.same s16)) (g9.2.chg (Chb.same s16))
    replace g10 := And.intro (g10.1.chg (Chb.same s16)) (g10.2.chg (Chb.same s16))
    replace g11 := And.intro (g11.1.chg (Chb.same s16)) (g11.2.chg (Chb.same s16))
    replace g12 := And.intro (g12.1.chg (Chb.same s16)) (g12.2.chg (Chb.same s16))
    replace g13 := And.intro (g13.1.chg (Chb.same s16)) (g13.2.chg (Chb.same s16))
    replace g14 := And.intro (g14.1.chg (Chb.same s16)) (g14.2.chg (Chb.same s16))
    replace g15 := And.intro (g15.1.chg (Chb.same s16)) (g15.2.chg (Chb.same s16))
    replace hC := hC.trans (Chb.same s16)
    clear s16 n16
    generalize upd H15 p16 (.lst [.ref p15]) = H16 at *
    refine ⟨(by show 6 ≤ sizeLine; decide), fun p17 n17 => ?_⟩
    have b17 := new_ne (u := .lst [.ref p10, .ref p13, .ref p14, .ref p16, .str "1.2.3", .str "a/b"]) b16 n17
    have s17 : Same H16 (upd H16 p17 (.lst [.ref p10, .ref p13, .ref p14, .ref p16, .str "1.2.3", .str "a/b"])) := new_same n17
    replace hB := hB.same s17
    replace g1 := And.intro (g1.1.chg (Chb.same s17)) (g1.2.chg (Chb.same s17))
    replace g2 := And.intro (g2.1.chg (Chb.same s17)) (g2.2.chg (Chb.same s17))
    replace g3 := And.intro (g3.1.chg (Chb.same s17)) (g3.2.chg (Chb.same s17))
    replace g4 := And.intro (g4.1.chg (Chb.same s17)) (g4.2.chg (Chb.same s17))
    replace g5 := And.intro (g5.1.chg (Chb.same s17)) (g5.2.chg (Chb.same s17))
    replace g6 := And.intro (g6.1.chg (Chb.same s17)) (g6.2.chg (Chb.same s17))
    replace m7 := s17 _ _ m7
    replace g8 := And.intro (g8.1.chg (Chb.same s17)) (g8.2.chg (Chb.same s17))
    replace g9 := And.intro (g9.1.chg (Chb.same s17)) (g9.2.chg (Chb.same s17))
    replace g10 := And.intro (g10.1.chg (Chb.same s17)) (g10.2.chg (Chb.same s17))
    replace g11 := And.intro (g11.1.chg (Chb.same s17)) (g11.2.chg (Chb.same s17))
    replace g12 := And.intro (g12.1.chg (Chb.same s17)) (g12.2.chg (Chb.same s17))
    replace g13 := And.intro (g13.1.chg (Chb.same s17)) (g13.2.chg (Chb.same s17))
    replace g14 := And.intro (g14.1.chg (Chb.same s17)) (g14.2.chg (Chb.same s17))
    replace g15 := And.intro (g15.1.chg (Chb.same s17)) (g15.2.chg (Chb.same s17))
    replace g16 := And.intro (g16.1.chg (Chb.same s17)) (g16.2.chg (Chb.same s17))
    replace hC := hC.trans (Chb.same s17)
    have m17 : (upd H16 p17 (.lst [.ref p10, .ref p13, .ref p14, .ref p16, .str "1.2.3", .str "a/b"])) p17 = some (.lst [.ref p10, .ref p13, .ref p14, .ref p16, .str "1.2.3", .str "a/b"]) := upd_same
    clear s17 n17
    generalize upd H16 p17 (.lst [.ref p10, .ref p13, .ref p14, .ref p16, .str "1.2.3", .str "a/b"]) = H17 at *
    refine ⟨p7, p17, _, _, rfl, rfl, m7, m17, (by show 22 ≤ sizeLine; decide), fun p18 n18 => ?_⟩
    refine ⟨b, p18, _, rfl, hB.same (new_same n18), upd_same, (ne_new b17 n18).symm, (by simp), (by simp), fun H' x hC' hB' hx => ?_⟩
    have c2 : Chb b H17 H' := (Chb.new n18).trans hC'
    have all : ∀ x ∈ [(.non : V), (.bl true : V), (.bl false : V), (.int 0 : V), (.int 1 : V), (.int (-1) : V), (.int (10 ^ (39 : Int).toNat) : V), (.str "" : V), (.str "a" : V), (.str "A" : V), (.str "core" : V), (.ref p1 : V), (.ref p2 : V), (.ref p3 : V), (.ref p4 : V), (.ref p6 : V), (.ref p10 : V), (.ref p13 : V), (.ref p14 : V), (.ref p16 : V), (.str "1.2.3" : V), (.str "a/b" : V)], Low b H17 x ∧ Pv b H17 3 4100 x := (all_cons ⟨Low.non, pv_non.mono (by decide) (by decide)⟩ (all_cons ⟨(Low.bl _), (pv_bl _).mono (by decide) (by decide)⟩ (all_cons ⟨(Low.bl _), (pv_bl _).mono (by decide) (by decide)⟩ (all_cons ⟨(Low.int _ (by decide +kernel)), (pv_int (by decide +kernel)).mono (by decide) (by decide)⟩ (all_cons ⟨(Low.int _ (by decide +kernel)), (pv_int (by decide +kernel)).mono (by decide) (by decide)⟩ (all_cons ⟨(Low.int _ (by decide +kernel)), (pv_int (by decide +kernel)).mono (by decide) (by decide)⟩ (all_cons ⟨(Low.int _ (by decide +kernel)), (pv_int (by decide +kernel)).mono (by decide) (by decide)⟩ (all_cons ⟨(Low.str _ (by decide +kernel) (by decide +kernel)), (pv_str (by decide +kernel) (by decide +kernel)).mono (by decide) (by decide)⟩ (all_cons ⟨(Low.str _ (by decide +kernel) (by decide +kernel)), (pv_str (by decide +kernel) (by decide +kernel)).mono (by decide) (by decide)⟩ (all_cons ⟨(Low.str _ (by decide +kernel) (by decide +kernel)), (pv_str (by decide +kernel) (by decide +kernel)).mono (by decide) (by decide)⟩ (all_cons ⟨(Low.str _ (by decide +kernel) (by decide +kernel)), (pv_str (by decide +kernel) (by decide +kernel)).mono (by decide) (by decide)⟩ (all_cons ⟨g1.1, g1.2.mono (by decide) (by decide)⟩ (all_cons ⟨g2.1, g2.2.mono (by decide) (by decide)⟩ (all_cons ⟨g3.1, g3.2.mono (by decide) (by decide)⟩ (all_cons ⟨g4.1, g4.2.mono (by decide) (by decide)⟩ (all_cons ⟨g6.1, g6.2.mono (by decide) (by decide)⟩ (all_cons ⟨g10.1, g10.2.mono (by decide) (by decide)⟩ (all_cons ⟨g13.1, g13.2.mono (by decide) (by decide)⟩ (all_cons ⟨g14.1, g14.2.mono (by decide) (by decide)⟩ (all_cons ⟨g16.1, g16.2.mono (by decide) (by decide)⟩ (all_cons ⟨(Low.str _ (by decide +kernel) (by decide +kernel)), (pv_str (by decide +kernel) (by decide +kernel)).mono (by decide) (by decide)⟩ (all_cons ⟨(Low.str _ (by decide +kernel) (by decide +kernel)), (pv_str (by decide +kernel) (by decide +kernel)).mono (by decide) (by decide)⟩ (fun v hv => by cases hv)))))))))))))))))))))))
    obtain ⟨z1, z2⟩ := all x hx
    exact q H' x (hC.trans c2) hB' (z1.chg c2) (z2.chg c2)
end
end V1
/-! A value bent. -/
namespace V1
open PySem PySem.Spec PyProof.Rows L2
abbrev sBent : Stmt := topS 33
theorem scBent : FnScope ["bag", "thing", "deep", "way", "at"] ["bag", "thing", "deep"] (defScope sBent) := ⟨rfl, rfl, rfl, by decide +kernel, rfl, by decide +kernel, by decide +kernel⟩
def CB : Nat → Nat
  | 0 => 4100
  | n + 1 => 10 + 12 * CB n
theorem CB_ge : ∀ n, 4100 ≤ CB n
  | 0 => Nat.le_refl _
  | n + 1 => by have := CB_ge n; show 4100 ≤ 10 + 12 * CB n; omega
theorem CB_mono (n : Nat) : CB n ≤ CB (n + 1) := by show CB n ≤ 10 + 12 * CB n; omega
theorem ofs_ok (s : String) : ∀ k ∈ (PySem.Str.ofString s).cps.toList, k < 16 ^ 8 := by
  intro k hk
  rw [signs_ofString] at hk
  obtain ⟨c, _, rfl⟩ := List.mem_map.mp hk
  exact c.val.toNat_lt
theorem cat_ok {x y : PySem.Str} {m n : Nat} (hx : x.length ≤ m) (hy : y.length ≤ n) (cx : ∀ k ∈ x.cps.toList, k < 16 ^ 8) (cy : ∀ k ∈ y.cps.toList, k < 16 ^ 8) (h : m + n ≤ 100) : (x ++ y).length ≤ 100 ∧ ∀ k ∈ (x ++ y).cps.toList, k < 16 ^ 8 := by
  constructor
  · rw [strLen_append]; omega
  · intro k hk
    have e : (x ++ y).cps.toList = x.cps.toList ++ y.cps.toList := by
      show (x.cps ++ y.cps).toList = _
      simp
    rw [e] at hk
    rcases List.mem_append.mp hk with z | z
    · exact cx k z
    · exact cy k z
theorem CB_fit {m k : Nat} (h : k ≤ 12) : 10 + CB m * k ≤ CB (m + 1) := by
  show 10 + CB m * k ≤ 10 + 12 * CB m
  have := Nat.mul_le_mul_left (CB m) h
  omega
theorem small_int {i : Int} (h : i.natAbs < 10 ^ 50) : i.natAbs.log2 < 1920 := by
  by_cases h0 : i.natAbs = 0
  · rw [h0]; decide
  · exact (Nat.log2_lt h0).mpr (Nat.lt_trans h (by decide +kernel))
theorem str_text {i : Int} (h : i.natAbs < 10 ^ 50) : (PySem.Str.ofString (toString i)).length ≤ 100 := by
  have q := int_text_length_le10 (k := 50) (by decide) h
  have e : (PySem.Str.ofString (toString i)).length = (toString i).length := PySem.ofString_length _
  clear h
  omega
section
variable {P : Program} {w : World} {K : PySem.W.Frag} {mg : PySem.Str → Option Value} {base : Heap}
/-- bent at depth n - 1 (nothing is promised at 0) -/
def spBent : Nat → Sp
  | 0 => fun _ _ _ _ => False
  | n + 1 => fun vs H Q _ => ∃ (b : Addr) (v : V), vs = [.ref b, v, .int (n : Nat)] ∧ Bag H b ∧ Low b H v ∧ Pv b H 3 4100 v ∧ ∀ H' v', Chb b H H' → Bag H' b → Pv b H' (3 + n) (CB n) v' → Q v' H'
structure Fns (K : PySem.W.Frag) (mg : PySem.Str → Option Value) (fT fO fI fD fB : Addr) (dT dO dI dD dB : FuncData) : Prop where
  FT : Fun K "_law_take" "_law_take" sTake fT dT
  FO : Fun K "_law_one" "_law_one" sOne fO dO
  FI : Fun K "_law_integer" "_law_integer" sInteger fI dI
  FD : Fun K "_law_odd" "_law_odd" sOdd fD dD
  FB : Fun K "_law_bent" "_law_bent" sBent fB dB
  bT : Binds K dT ["bag", "many"] []
  bO : Binds K dO ["bag", "things"] []
  bI : Binds K dI ["thing"] []
  bD : Binds K dD ["bag"] []
  bB : Binds K dB ["bag", "thing", "deep"] []
  gT : mg "_law_take" = some (.ref fT)
  gO : mg "_law_one" = some (.ref fO)
  gI : mg "_law_integer" = some (.ref fI)
  gD : mg "_law_odd" = some (.ref fD)
  gB : mg "_law_bent" = some (.ref fB)
  mInt : mg "int" = none
  mLen : mg "len" = none
  mIsi : mg "isinstance" = none
  mBool : mg "bool" = none
  mStr : mg "str" = none
  mTup : mg "tuple" = none
  mList : mg "list" = none
theorem ok_bent {fT fO fI fD fB : Addr} {dT dO dI dD dB : FuncData} (T : Fns K mg fT fO fI fD fB dT dO dI dD dB) : ∀ n : Nat, FnOk P w K mg base CX0 (5 + n) fB dB ["bag", "thing", "deep"] (spBent n)
  | 0 => ⟨fun vs H Q E h => h.elim, fun A outer s H args us vs Q E hr e0 hb r h => h.elim⟩
  | n + 1 => by
    have GB := ok_bent T n
    have GT : FnOk P w K mg base CX0 1 fT dT ["bag", "many"] spTake := ok_take T.FT T.mInt
    have GO : FnOk P w K mg base CX0 2 fO dO ["bag", "things"] spOne := ok_one T.FO T.FT T.bT T.gT T.mInt T.mLen
    have GI : FnOk P w K mg base CX0 1 fI dI ["thing"] spInteger := ok_integer T.FI T.mIsi T.mInt T.mBool
    have GD : FnOk P w K mg base CX0 3 fD dD ["bag"] spOdd := ok_odd T.FD T.FO T.bO T.gO T.FT T.bT T.gT T.mInt T.mLen
    refine T.FB.ok scBent (fun vs H Q E h => ?_) (fun cdv A outer s H vs Q E hr h => ?_)
    · obtain ⟨b, v, rfl, _⟩ := h
      rfl
    · obtain ⟨b, v, rfl, hB, lo, hpv, q⟩ := h
      have hr1 : Room 1 _ := hr.mono (show 1 ≤ 5 + n by omega)
      have hr2 : Room 2 _ := hr.mono (show 2 ≤ 5 + n by omega)
      have hr3 : Room 3 _ := hr.mono (show 3 ≤ 5 + n by omega)
      refine ⟨_, C8.pss_cut (ps_if (pt_mid (PW.pt (pw_and (pt_val (pe_callB call_isi (by rfl) T.mIsi (by decide +kernel) (pa_cons (pv 1) (pa_cons (pe_bltn (v := .ty "str") (u := .type "str") (by rfl) T.mStr (by decide +kernel) rfl) pa_nil))))
            (pw_and1 (pt_cmpR op_eq (pe_call GT hr1 (by rfl) T.gT T.FT.kp T.bT .nil pass0 (pa_cons (pv 0) (pa_cons pe_int pa_nil))) pe_int (nomark _))))))
          (pss_one (ps_ret (pe_call GO hr2 (by rfl) T.gO T.FO.kp T.bO .nil pass0 (pa_cons (pv 0) (pa_cons (pe_lst (pa_cons (pe_op op_add_str (pv 1) pe_str) (pa_cons (pe_op op_add_str (pv 1) pe_str) (pa_cons (pe_slice sl_str (pv 1) (po_some pe_int) po_none)
            (pa_cons (pe_rev (pv 1)) (pa_cons (pe_op op_add_str pe_str (pv 1)) (pa_cons (pe_op op_add_str (pv 1) pe_str) (pa_cons pe_str pa_nil)))))))) pa_nil))))) pss_nil)
        (C8.pss_cut (ps_if (pt_mid (PW.pt (pw_or (pt_not (pt_val (pe_callB call_isi (by rfl) T.mIsi (by decide +kernel) (pa_cons (pv 1) (pa_cons (pe_bltn (v := .ty "tuple") (u := .type "tuple") (by rfl) T.mTup (by decide +kernel) rfl) pa_nil)))))
            (pw_or (pt_cmpR (op_eqT0 hr1.units0) (pv 1) (pe_tup pa_nil) (nomark _)) (pw_or1 (pt_cmpR op_eq (pv 2) pe_int (nomark _)))))))
          (C8.pss_cut (ps_if (pt_mid (PW.pt (pw_and (pt_val (pe_call GI hr1 (by rfl) T.gI T.FI.kp T.bI .nil pass0 (pa_cons (pv 1) pa_nil)))
              (pw_and1 (pt_cmpR op_gt (pe_call GT hr1 (by rfl) T.gT T.FT.kp T.bT .nil pass0 (pa_cons (pv 0) (pa_cons pe_int pa_nil))) pe_int (nomark _))))))
            (pss_one (ps_ret (pe_call GO hr2 (by rfl) T.gO T.FO.kp T.bO .nil pass0 (pa_cons (pv 0) (pa_cons (pe_lst (pa_cons (pe_op op_add (pv 1) pe_int) (pa_cons (pe_op op_sub (pv 1) pe_int) (pa_cons (pe_op op_sub pe_int (pv 1))
              (pa_cons (pe_op op_add (pv 1) (pe_op op_pow pe_int pe_int)) (pa_cons (pe_callTy call_str_int (by rfl) T.mStr (by decide +kernel) (pa_cons (pv 1) pa_nil)) (pa_cons (pe_cmpR op_eq (pv 1) pe_int (nomark _)) pa_nil))))))) pa_nil))))) pss_nil)
          (C8.pss_cut (ps_if (pt_mid (PW.pt (pw_and (pt_val (pe_callB call_isi (by rfl) T.mIsi (by decide +kernel) (pa_cons (pv 1) (pa_cons (pe_bltn (v := .ty "bool") (u := .type "bool") (by rfl) T.mBool (by decide +kernel) rfl) pa_nil))))
              (pw_and1 (pt_cmpR op_eq (pe_call GT hr1 (by rfl) T.gT T.FT.kp T.bT .nil pass0 (pa_cons (pv 0) (pa_cons pe_int pa_nil))) pe_int (nomark _))))))
            (pss_one (ps_ret (pe_callTy call_int1 (by rfl) T.mInt (by decide +kernel) (pa_cons (pv 1) pa_nil)))) pss_nil)
          (pss_one (ps_ret (pe_call GD hr3 (by rfl) T.gD T.FD.kp T.bD .nil pass0 (pa_cons (pv 0) pa_nil)))))) pss_nil)
        (C8.pss_cut (ps_par (i := 3) (j := 4) rfl scBent.nd rfl rfl (by decide) rfl rfl (pa_cons (pe_call GT hr1 (by rfl) T.gT T.FT.kp T.bT .nil pass0 (pa_cons (pv 0) (pa_cons pe_int pa_nil)))
            (pa_cons (pe_call GT hr1 (by rfl) T.gT T.FT.kp T.bT .nil pass0 (pa_cons (pv 0) (pa_cons (pe_callB call_len_seq (by rfl) T.mLen PySem.boot_len (pa_cons (pv 1) pa_nil)) pa_nil))) pa_nil)) (by rfl))
        (pss_cons (ps_if (pt_cmpR op_eq (pv 3) pe_int (nomark _)) (pss_one (ps_ret (pe_callTy call_list_of (by rfl) T.mList (by decide +kernel) (pa_cons (pv 1) pa_nil)))) pss_nil)
        (pss_cons (ps_if (pt_cmpR op_eq (pv 3) pe_int (nomark _)) (pss_one (ps_ret (pe_op (op_cattp b (3 + (n - 1)) (CB (n - 1))) (pe_slice (sl_tp b (3 + (n - 1)) (CB (n - 1))) (pv 1) po_none (po_some (pv 4))) (pe_slice (sl_tp b (3 + (n - 1)) (CB (n - 1))) (pv 1) (po_some (pe_op op_add (pv 4) pe_int)) po_none)))) pss_nil)
        (pss_cons (ps_if (pt_cmpR op_eq (pv 3) pe_int (nomark _)) (pss_one (ps_ret (pe_op (op_cattp b (3 + (n - 1)) (CB (n - 1))) (pe_op (op_cattp b (3 + (n - 1)) (CB (n - 1))) (pe_slice (sl_tp b (3 + (n - 1)) (CB (n - 1))) (pv 1) po_none (po_some (pv 4)))
            (pe_tup (pa_cons (pe_call GD hr3 (by rfl) T.gD T.FD.kp T.bD .nil pass0 (pa_cons (pv 0) pa_nil)) pa_nil))) (pe_slice (sl_tp b (3 + (n - 1)) (CB (n - 1))) (pv 1) (po_some (pv 4)) po_none)))) pss_nil)
        (pss_cons (ps_if (pt_cmpR op_eq (pv 3) pe_int (nomark _)) (pss_one (ps_ret (pe_rev (pv 1)))) pss_nil)
        (pss_cons (ps_if (pt_cmpR op_eq (pv 3) pe_int (nomark _)) (pss_one (ps_ret (pe_op (op_cattp b (3 + (n - 1)) (CB (n - 1))) (pe_op (op_cattp b (3 + (n - 1)) (CB (n - 1))) (pe_slice (sl_tp b (3 + (n - 1)) (CB (n - 1))) (pv 1) po_none (po_some (pv 4)))
            (pe_slice (sl_tp b (3 + (n - 1)) (CB (n - 1))) (pv 1) (po_some (pv 4)) (po_some (pe_op op_add (pv 4) pe_int)))) (pe_slice (sl_tp b (3 + (n - 1)) (CB (n - 1))) (pv 1) (po_some (pv 4)) po_none)))) pss_nil)
        (pss_one (ps_ret (pe_op (op_cattp b (3 + (n - 1)) (CB (n - 1))) (pe_op (op_cattp b (3 + (n - 1)) (CB (n - 1))) (pe_slice (sl_tp b (3 + (n - 1)) (CB (n - 1))) (pv 1) po_none (po_some (pv 4)))
            (pe_tup (pa_cons (pe_call GB (hr.mono (Nat.le_refl _)) (by rfl) T.gB T.FB.kp T.bB .nil pass0 (pa_cons (pv 0) (pa_cons (pe_ix ix_tup (pv 1) (pv 4) (fun _ _ => rfl)) (pa_cons (pe_op op_sub (pv 2) pe_int) pa_nil)))) pa_nil)))
            (pe_slice (sl_tp b (3 + (n - 1)) (CB (n - 1))) (pv 1) (po_some (pe_op op_add (pv 4) pe_int)) po_none))))))))))), ?_⟩
      have big := CB_ge n
      obtain ⟨T1, ty, t1, t2, t3, tc, t4, t5⟩ := lo.ty K
      refine ⟨fun σ' H' => σ' = [some (.ref b), some v, some (.int (n : Nat)), none, none] ∧ Chb b H H' ∧ Bag H' b, ?_, ?_⟩
      · refine ⟨fun c H' => Chb b H H' ∧ Bag H' b ∧ (c = true → isS v = true), ?_, fun c H' ⟨hC, hB', hv⟩ => ite2 (fun e => ?_) (fun e => ⟨rfl, hC, hB'⟩)⟩
        · refine ⟨v, rfl, v, .ty "str", _, _, _, rfl, .ty "str", ty, t3, _, rfl, ite2 (fun e => ?_) (fun e => ⟨Chb.refl, hB, fun z => by cases z⟩)⟩
          exact ⟨.ref b, rfl, b, 2, rfl, hB, by decide, by decide, fun H' x hC hB' x0 x1 => ⟨rfl, _, rfl, hC, hB', fun _ => e⟩⟩
        · obtain ⟨x, rfl⟩ : ∃ x, v = .str x := by
            have z := hv e
            cases v <;> first | exact ⟨_, rfl⟩ | (simp [isS] at z)
          cases lo with
          | str _ hx hc =>
            have fit : ∀ k : Nat, k ≤ 1000 → k ≤ sizeLine := fun k hk => by rw [sizeLine_eq]; omega
            have lx : x.length ≤ 1000 := by omega
            have one1 : ∀ y : PySem.Str, y.length = 1 → x.length + y.length ≤ sizeLine ∧ y.length + x.length ≤ sizeLine := fun y hy => ⟨fit _ (by omega), fit _ (by omega)⟩
            refine ⟨.ref b, rfl, .str x, rfl, x, "A", rfl, rfl, (one1 "A" (by decide +kernel)).1, .str x, rfl, x, "a", rfl, rfl, (one1 "a" (by decide +kernel)).1, .str x, rfl, 1, rfl, x, rfl, fit _ lx, .str x, rfl, .inl ⟨x, rfl, fit _ lx, fun y hy1 hy2 => ?_⟩⟩
            refine ⟨.str x, rfl, "-", x, rfl, rfl, (one1 "-" (by decide +kernel)).2, .str x, rfl, x, "/", rfl, rfl, (one1 "/" (by decide +kernel)).1, by show 7 ≤ sizeLine; decide, fun p np => ?_⟩
            obtain ⟨ob, hb⟩ : ∃ o, H' b = some o := by obtain ⟨n, m, k, l, cs, hb, _⟩ := hB'; exact ⟨_, hb⟩
            refine ⟨b, p, _, rfl, hB'.same (new_same np), upd_same, (ne_new hb np).symm, by simp, by simp, fun H2 z hC2 hB2 hz => ?_⟩
            have cut1 : (cutS x (some 1) none).length ≤ 100 := Nat.le_trans (cutS_length _ _ _) (by omega)
            have short : ∀ y : PySem.Str, y.length = 1 → y.length ≤ 10 := fun y h => by omega
            have all : ∀ z ∈ [V.str (x ++ ("A" : PySem.Str)), .str (x ++ ("a" : PySem.Str)), .str (cutS x (some 1) none), .str y, .str (("-" : PySem.Str) ++ x), .str (x ++ ("/" : PySem.Str)), .str ""], ∃ y : PySem.Str, z = .str y ∧ y.length ≤ 100 ∧ ∀ k ∈ y.cps.toList, k < 16 ^ 8 :=
              all_cons ⟨_, rfl, cat_ok hx (n := 1) (by decide +kernel) hc (ofs_ok _) (by decide)⟩ (all_cons ⟨_, rfl, cat_ok hx (n := 1) (by decide +kernel) hc (ofs_ok _) (by decide)⟩ (all_cons ⟨_, rfl, cut1, fun k hk => hc k (cut_mem hk)⟩
                (all_cons ⟨_, rfl, by omega, fun k hk => hc k (hy2 k hk)⟩ (all_cons ⟨_, rfl, cat_ok (m := 1) (by decide +kernel) hx (ofs_ok _) hc (by decide)⟩ (all_cons ⟨_, rfl, cat_ok hx (n := 1) (by decide +kernel) hc (ofs_ok _) (by decide)⟩
                (all_cons ⟨_, rfl, by decide +kernel, ofs_ok _⟩ fun z hz => by cases hz))))))
            obtain ⟨y2, rfl, h1, h2⟩ := all z hz
            exact q _ _ ((hC.trans (Chb.new np)).trans hC2) hB2 ((pv_str h1 h2).mono (by omega) (by omega))
      · rintro σ' H1 ⟨rfl, hC1, hB1⟩
        refine ⟨fun σ' H' => σ' = [some (.ref b), some v, some (.int (n : Nat)), none, none] ∧ Chb b H H' ∧ Bag H' b ∧ ∃ a xs, v = .ref a ∧ a ≠ b ∧ H' a = some (.tup xs) ∧ xs ≠ [] ∧ xs.length ≤ 4 ∧ (∀ v ∈ xs, Low b H' v) ∧ n ≠ 0, ?_, ?_⟩
        · obtain ⟨T2, ty', u1, u2, u3, uc, u4, u5⟩ := (lo.chg hC1).ty K
          refine ⟨fun c H' => Chb b H H' ∧ Bag H' b ∧ (c = false → ∃ a xs, v = .ref a ∧ a ≠ b ∧ H' a = some (.tup xs) ∧ xs ≠ [] ∧ xs.length ≤ 4 ∧ (∀ v ∈ xs, Low b H' v) ∧ n ≠ 0), ?_, fun c H2 ⟨hC2, hB2, hv⟩ => ite2 (fun e => ?_) (fun e => ⟨rfl, hC2, hB2, hv (by simpa using e)⟩)⟩
          · refine ⟨v, rfl, v, .ty "tuple", _, _, _, rfl, .ty "tuple", ty', u4, uc, rfl, ite2 (fun e => ⟨hC1, hB1, fun z => by cases z⟩) (fun e => ?_)⟩
            obtain ⟨a, xs, rfl, ne, hx, hl, hlo⟩ := u5 (by cases uc <;> simp_all)
            refine ⟨.ref a, rfl, by show 0 ≤ sizeLine; exact Nat.zero_le _, fun p np => ⟨a, p, xs, rfl, rfl, .inl (.inl (new_ne hx np)), .inl (.inl upd_same), _, rfl, ite2 (fun e => ?_) (fun e => ?_)⟩⟩
            · exact ⟨hC1.trans (Chb.new np), hB1.same (new_same np), fun z => by cases z⟩
            · refine ⟨_, rfl, rfl, _, rfl, hC1.trans (Chb.new np), hB1.same (new_same np), fun z => ⟨a, xs, rfl, ne, new_ne hx np, fun y => e (by rw [y]; rfl), hl, fun v hv => (hlo v hv).chg (Chb.new np), fun hn => ?_⟩⟩
              subst hn
              exact absurd rfl (of_decide_eq_false z)
          · have lo2 := lo.chg hC2
            refine ⟨fun σ' H' => σ' = [some (.ref b), some v, some (.int (n : Nat)), none, none] ∧ Chb b H H' ∧ Bag H' b, ?_, ?_⟩
            · refine ⟨fun c H' => Chb b H H' ∧ Bag H' b ∧ (c = true → isI v = true), ?_, fun c H3 ⟨hC3, hB3, hv⟩ => ite2 (fun e => ?_) (fun e => ⟨rfl, hC3, hB3⟩)⟩
              · refine ⟨v, rfl, b, v, rfl, lo2, _, rfl, ite2 (fun e => ?_) (fun e => ⟨hC2, hB2, fun z => by cases z⟩)⟩
                exact ⟨.ref b, rfl, b, 3, rfl, hB2, by decide, by decide, fun H' x hC hB' x0 x1 => ⟨x, 0, rfl, rfl, _, rfl, hC2.trans hC, hB', fun _ => e⟩⟩
              · obtain ⟨i, rfl⟩ : ∃ i, v = .int i := by
                  have z := hv e
                  cases v <;> first | exact ⟨_, rfl⟩ | (simp [isI] at z)
                cases lo with
                | int _ hi =>
                  refine ⟨.ref b, rfl, .int i, rfl, i, 1, rfl, rfl, .int i, rfl, i, 1, rfl, rfl, .int i, rfl, 0, i, rfl, rfl, .int i, rfl, 10, 6, rfl, rfl, ⟨by decide, by decide, by decide⟩, i, _, rfl, rfl, .int i, rfl, i, rfl, small_int hi, .int i, rfl, rfl, by show 6 ≤ sizeLine; decide, fun p np => ?_⟩
                  obtain ⟨ob, hb⟩ : ∃ o, H3 b = some o := by obtain ⟨n, m, k, l, cs, hb, _⟩ := hB3; exact ⟨_, hb⟩
                  refine ⟨b, p, _, rfl, hB3.same (new_same np), upd_same, (ne_new hb np).symm, by simp, by simp, fun H4 z hC4 hB4 hz => ?_⟩
                  have up : ∀ {b : Addr} {H : Hp} {j : Int}, j.natAbs < 10 ^ 60 → Pv b H 0 1010 (.int j) := fun h => (pv_int h).mono (Nat.le_refl _) (by decide)
                  have p6 : (i + 10 ^ (6 : Int).toNat).natAbs < 10 ^ 60 := by
                    have e6 : (10 : Int) ^ (6 : Int).toNat = 1000000 := by decide
                    rw [e6]
                    omega
                  have all : ∀ {H : Hp}, ∀ z ∈ [V.int (i + 1), .int (i - 1), .int (0 - i), .int (i + 10 ^ (6 : Int).toNat), .str (PySem.Str.ofString (toString i)), .bl (decide (V.int i = V.int 1))], Pv b H 0 1010 z := fun {H} =>
                    all_cons (up (by omega)) (all_cons (up (by omega)) (all_cons (up (by omega)) (all_cons (up p6) (all_cons (pv_str (str_text hi) (ofs_ok _)) (all_cons ((pv_bl _).mono (Nat.le_refl _) (by decide)) fun z hz => by cases hz)))))
                  exact q _ _ ((hC3.trans (Chb.new np)).trans hC4) hB4 ((all z hz).mono (by omega) (by omega))
            · rintro σ' H3 ⟨rfl, hC3, hB3⟩
              have lo3 := lo.chg hC3
              obtain ⟨T4, ty4, w1, w2, w3, _⟩ := lo3.ty K
              refine ⟨fun σ' H' => σ' = [some (.ref b), some v, some (.int (n : Nat)), none, none] ∧ Chb b H H' ∧ Bag H' b, ?_, ?_⟩
              · refine ⟨fun c H' => Chb b H H' ∧ Bag H' b ∧ (c = true → isB v = true), ?_, fun c H4 ⟨hC4, hB4, hv⟩ => ite2 (fun e => ?_) (fun e => ⟨rfl, hC4, hB4⟩)⟩
                · refine ⟨v, rfl, v, .ty "bool", _, _, _, rfl, .ty "bool", ty4, w2, _, rfl, ite2 (fun e => ?_) (fun e => ⟨hC3, hB3, fun z => by cases z⟩)⟩
                  exact ⟨.ref b, rfl, b, 2, rfl, hB3, by decide, by decide, fun H' x hC hB' x0 x1 => ⟨rfl, _, rfl, hC3.trans hC, hB', fun _ => e⟩⟩
                · obtain ⟨i, rfl⟩ : ∃ i, v = .bl i := by
                    have z := hv e
                    cases v <;> first | exact ⟨_, rfl⟩ | (simp [isB] at z)
                  refine ⟨_, rfl, .inr ⟨i, rfl, q _ _ hC4 hB4 ((pv_int ?_).mono (by omega) (by omega))⟩⟩
                  cases i <;> decide +kernel
              · rintro σ' H4 ⟨rfl, hC4, hB4⟩
                exact ⟨.ref b, rfl, b, rfl, hB4, fun H' x hC hB' lo' pv' => q _ _ (hC4.trans hC) hB' (pv'.mono (by omega) big)⟩
        · rintro σ' H2 ⟨rfl, hC2, hB2, a, xs, rfl, ne, hx2, hne, hl, hlo, hn0⟩
          obtain ⟨m, rfl⟩ : ∃ m, n = m + 1 := ⟨n - 1, by omega⟩
          have big' := CB_ge m
          obtain ⟨_, its⟩ := (hpv.chg hC2).items hx2
          have len1 : 1 ≤ xs.length := List.length_pos_iff.mpr hne
          have hall : Pv b H2 (3 + m + 1) (10 + CB m * xs.length) (.ref a) := (hpv.chg hC2).mono (by omega) (by
            have := Nat.mul_le_mul_left (CB m) len1
            omega)
          have tp2 : Tp b H2 (3 + m) (CB m) a xs := ⟨hx2, fun v hv => (its v hv).mono (by omega) big', hall, ne⟩
          refine ⟨fun σ' H' => ∃ wy at_, σ' = [some (.ref b), some (.ref a), some (.int ((m + 1 : Nat) : Int)), some (.int wy), some (.int at_)] ∧ Chb b H2 H' ∧ Bag H' b ∧ 0 ≤ at_ ∧ at_ < xs.length, ?_, ?_⟩
          · refine ⟨.ref b, rfl, b, 14, rfl, hB2, by decide, by decide, fun H3 x hC3 hB3 _ _ => ⟨.ref b, rfl, .ref a, rfl, a, xs, rfl, .inr (.inl (.inl (hC3 _ _ ne hx2))), b, _, rfl, hB3, by omega, by omega, fun H4 y hC4 hB4 y0 y1 => ?_⟩⟩
            exact ⟨_, _, rfl, x, y, rfl, hC3.trans hC4, hB4, y0, y1⟩
          · rintro σ' H3 ⟨wy, at_, rfl, hC3', hB3, a0, a1⟩
            have hC3 := hC2.trans hC3'
            have tp := tp2.chg hC3'
            have hx3 := tp.at_
            obtain ⟨ob, hb⟩ : ∃ o, H3 b = some o := by obtain ⟨n, m, k, l, cs, hb, _⟩ := hB3; exact ⟨_, hb⟩
            have fin : ∀ H' p zs, Chb b H3 H' → Tp b H' (3 + m) (CB m) p zs → zs.length ≤ 12 → Bag H' b → Q (.ref p) H' := fun H' p zs c t hz B => q _ _ (hC3.trans c) B (t.all.mono (by omega) (CB_fit hz))
            have cl : ∀ lo hi, (cutV xs lo hi).length ≤ 4 := fun lo hi => Nat.le_trans (cutV_length _ _ _) hl
            -- way == 0
            refine ⟨_, rfl, rfl, _, rfl, ite2 (fun e => ?_) (fun _ => ?_)⟩
            · exact ⟨.ref a, rfl, a, xs, rfl, .inr (.inl (.inl hx3)), fun l nl => q _ _ (hC3.trans (Chb.new nl)) (hB3.same (new_same nl)) ((Pv.lst_new hb nl tp.its).mono (by omega) (CB_fit (by omega)))⟩
            -- way == 1
            refine ⟨_, rfl, rfl, _, rfl, ite2 (fun e => ?_) (fun _ => ?_)⟩
            · refine ⟨.ref a, rfl, _, rfl, at_, rfl, a, xs, ob, rfl, hb, tp, fun H4 p4 s4 t4 => ⟨.ref a, rfl, _, rfl, at_, 1, rfl, rfl, _, rfl, a, xs, ob, rfl, s4 _ _ hb, tp.chg (Chb.same s4), fun H5 p5 s5 t5 => ?_⟩⟩
              refine ⟨p4, p5, _, _, ob, rfl, rfl, s5 _ _ (s4 _ _ hb), t4.chg (Chb.same s5), t5, ?_, fun H6 p6 s6 t6 => fin H6 p6 _ (Chb.same ((s4.trans s5).trans s6)) t6 ?_ (hB3.same ((s4.trans s5).trans s6))⟩
              · have := cl none (some at_); have := cl (some (at_ + 1)) none; omega
              · rw [List.length_append]; have := cl none (some at_); have := cl (some (at_ + 1)) none; omega
            -- way == 2
            refine ⟨_, rfl, rfl, _, rfl, ite2 (fun e => ?_) (fun _ => ?_)⟩
            · refine ⟨.ref a, rfl, _, rfl, at_, rfl, a, xs, ob, rfl, hb, tp, fun H4 p4 s4 t4 => ⟨.ref b, rfl, b, rfl, hB3.same s4, fun H5 x hC5 hB5 lox pvx => ⟨by show 1 ≤ sizeLine; decide, fun p5 n5 => ?_⟩⟩⟩
              obtain ⟨ob5, hb5⟩ : ∃ o, H5 b = some o := by obtain ⟨n, m, k, l, cs, hb, _⟩ := hB5; exact ⟨_, hb⟩
              have t5 : Tp b (upd H5 p5 (.tup [x])) (3 + m) (CB m) p5 [x] := Tp.new hb5 n5 (all_cons (pvx.mono (by omega) big') fun v hv => by cases hv)
              have c5 : Chb b H3 (upd H5 p5 (.tup [x])) := ((Chb.same s4).trans hC5).trans (Chb.new n5)
              refine ⟨p4, p5, _, _, ob5, rfl, rfl, new_ne hb5 n5, t4.chg (hC5.trans (Chb.new n5)), t5, ?_, fun H6 p6 s6 t6 => ?_⟩
              · have := cl none (some at_); show _ + 1 ≤ _; omega
              refine ⟨.ref a, rfl, _, rfl, at_, rfl, a, xs, ob5, rfl, s6 _ _ (new_ne hb5 n5), tp.chg (c5.trans (Chb.same s6)), fun H7 p7 s7 t7 => ?_⟩
              refine ⟨p6, p7, _, _, ob5, rfl, rfl, s7 _ _ (s6 _ _ (new_ne hb5 n5)), t6.chg (Chb.same s7), t7, ?_, fun H8 p8 s8 t8 => fin H8 p8 _ (c5.trans (Chb.same ((s6.trans s7).trans s8))) t8 ?_ (hB5.same (((new_same n5).trans s6).trans (s7.trans s8)))⟩
              · rw [List.length_append]; have := cl none (some at_); have := cl (some at_) none; show _ + 1 + _ ≤ _; omega
              · rw [List.length_append, List.length_append]; have := cl none (some at_); have := cl (some at_) none; show _ + 1 + _ ≤ _; omega
            -- way == 3
            refine ⟨_, rfl, rfl, _, rfl, ite2 (fun e => ?_) (fun _ => ?_)⟩
            · exact ⟨_, rfl, .inr ⟨a, xs, rfl, .inl (.inl hx3), fun p ys np hy hl' => fin _ p ys (Chb.new np) (Tp.new hb np fun v hv => tp.its v (hy v hv)) (by omega) (hB3.same (new_same np))⟩⟩
            -- way == 4
            refine ⟨_, rfl, rfl, _, rfl, ite2 (fun e => ?_) (fun _ => ?_)⟩
            · refine ⟨.ref a, rfl, _, rfl, at_, rfl, a, xs, ob, rfl, hb, tp, fun H4 p4 s4 t4 => ⟨.ref a, rfl, _, rfl, at_, rfl, _, rfl, at_, 1, rfl, rfl, _, rfl, a, xs, ob, rfl, s4 _ _ hb, tp.chg (Chb.same s4), fun H5 p5 s5 t5 => ?_⟩⟩
              refine ⟨p4, p5, _, _, ob, rfl, rfl, s5 _ _ (s4 _ _ hb), t4.chg (Chb.same s5), t5, ?_, fun H6 p6 s6 t6 => ?_⟩
              · have := cl none (some at_); have := cl (some at_) (some (at_ + 1)); omega
              have s36 := (s4.trans s5).trans s6
              refine ⟨.ref a, rfl, _, rfl, at_, rfl, a, xs, ob, rfl, s36 _ _ hb, tp.chg (Chb.same s36), fun H7 p7 s7 t7 => ?_⟩
              refine ⟨p6, p7, _, _, ob, rfl, rfl, s7 _ _ (s36 _ _ hb), t6.chg (Chb.same s7), t7, ?_, fun H8 p8 s8 t8 => fin H8 p8 _ (Chb.same (s36.trans (s7.trans s8))) t8 ?_ (hB3.same (s36.trans (s7.trans s8)))⟩
              · rw [List.length_append]; have := cl none (some at_); have := cl (some at_) (some (at_ + 1)); have := cl (some at_) none; omega
              · rw [List.length_append, List.length_append]; have := cl none (some at_); have := cl (some at_) (some (at_ + 1)); have := cl (some at_) none; omega
            -- the last way
            refine ⟨.ref a, rfl, _, rfl, at_, rfl, a, xs, ob, rfl, hb, tp, fun H4 p4 s4 t4 => ?_⟩
            have hi : at_.toNat < xs.length := by omega
            have hat : atI xs at_ = some xs[at_.toNat] := by
              have e : ((at_.toNat : Nat) : Int) = at_ := by omega
              have z := atI_nat (j := at_.toNat) (List.getElem?_eq_getElem hi)
              rw [e] at z
              exact z
            have c4 : Chb b H2 H4 := hC3'.trans (Chb.same s4)
            refine ⟨.ref b, rfl, .ref a, rfl, _, rfl, a, xs, at_, xs[at_.toNat], rfl, rfl, .inl (.inl (s4 _ _ hx3)), hat, _, rfl, _, 1, rfl, rfl, b, xs[at_.toNat], ?_, hB3.same s4, (hlo _ (List.getElem_mem hi)).chg c4, (its _ (List.getElem_mem hi)).chg c4, fun H5 x hC5 hB5 pvx => ⟨by show 1 ≤ sizeLine; decide, fun p5 n5 => ?_⟩⟩
            · show [V.ref b, xs[at_.toNat], V.int (((m + 1 : Nat) : Int) - 1)] ++ [] = _
              rw [List.append_nil, show (((m + 1 : Nat) : Int) - 1) = ((m : Nat) : Int) by omega]
            obtain ⟨ob5, hb5⟩ : ∃ o, H5 b = some o := by obtain ⟨n, m, k, l, cs, hb, _⟩ := hB5; exact ⟨_, hb⟩
            have t5 : Tp b (upd H5 p5 (.tup [x])) (3 + m) (CB m) p5 [x] := Tp.new hb5 n5 (all_cons pvx fun v hv => by cases hv)
            have c5 : Chb b H3 (upd H5 p5 (.tup [x])) := ((Chb.same s4).trans hC5).trans (Chb.new n5)
            refine ⟨p4, p5, _, _, ob5, rfl, rfl, new_ne hb5 n5, t4.chg (hC5.trans (Chb.new n5)), t5, ?_, fun H6 p6 s6 t6 => ?_⟩
            · have := cl none (some at_); show _ + 1 ≤ _; omega
            refine ⟨.ref a, rfl, _, rfl, at_, 1, rfl, rfl, _, rfl, a, xs, ob5, rfl, s6 _ _ (new_ne hb5 n5), tp.chg (c5.trans (Chb.same s6)), fun H7 p7 s7 t7 => ?_⟩
            refine ⟨p6, p7, _, _, ob5, rfl, rfl, s7 _ _ (s6 _ _ (new_ne hb5 n5)), t6.chg (Chb.same s7), t7, ?_, fun H8 p8 s8 t8 => fin H8 p8 _ (c5.trans (Chb.same ((s6.trans s7).trans s8))) t8 ?_ (hB5.same (((new_same n5).trans s6).trans (s7.trans s8)))⟩
            · rw [List.length_append]; have := cl none (some at_); have := cl (some (at_ + 1)) none; show _ + 1 + _ ≤ _; omega
            · rw [List.length_append, List.length_append]; have := cl none (some at_); have := cl (some (at_ + 1)) none; show _ + 1 + _ ≤ _; omega
end
end V1
/-! Values of which it is known what they are; repr of any of them. -/
namespace V1
open PySem PySem.Spec PyProof.Rows L2
/-- v prints, so it is known what it is -/
def Kn (H : Hp) (v : V) : Prop := ∃ d as t c, Shw H [v] d as [t] c
theorem Pv.kn {b : Addr} {H : Hp} {d B : Nat} {v : V} (p : Pv b H d B v) : Kn H v := by
  obtain ⟨as, t, e, q, _⟩ := p
  exact ⟨_, _, _, _, q⟩
theorem Shw.alone {H : Hp} {v : V} {vs : List V} {d : Nat} {as : List Addr} {ts : List PySem.Str} {c : Nat} (h : Shw H vs d as ts c) (hv : v ∈ vs) : Kn H v := by
  obtain ⟨as, t, e, q, _⟩ := h.each v hv
  exact ⟨_, _, _, _, q⟩
/-- what a value is -/
inductive Kind (H : Hp) : V → Prop
  | non : Kind H .non
  | bl (c : Bool) : Kind H (.bl c)
  | int (i : Int) (h : i.natAbs < 10 ^ 60) : Kind H (.int i)
  | str (x : PySem.Str) (h : x.length ≤ 100) (hc : ∀ k ∈ x.cps.toList, k < 16 ^ 8) : Kind H (.str x)
  | lst {a : Addr} {xs : List V} (h : H a = some (.lst xs)) : Kind H (.ref a)
  | dic {a : Addr} {kvs : List (Key × V)} (h : H a = some (.dK kvs)) : Kind H (.ref a)
  | tup {a : Addr} {xs : List V} (h : H a = some (.tup xs)) (k : ∀ v ∈ xs, Kn H v) : Kind H (.ref a)
theorem Kn.kind {H : Hp} {v : V} (k : Kn H v) : Kind H v := by
  obtain ⟨d, as, t, c, h⟩ := k
  generalize hv : [v] = vs at h
  cases h with
  | non r => cases hv; exact .non
  | bl b r => cases hv; exact .bl b
  | int i hi r => cases hv; exact .int i hi
  | str x hx hc r => cases hv; exact .str x hx hc
  | lst h p hn r => cases hv; exact .lst h
  | tup h p hn r => cases hv; exact .tup h fun v hv => p.alone hv
  | dic ks h hk p hn r => cases hv; exact .dic h
theorem Kn.same {H H' : Hp} {v : V} (k : Kn H v) (s : Same H H') : Kn H' v := by
  obtain ⟨d, as, t, c, h⟩ := k
  exact ⟨d, as, t, c, h.keep fun b _ o e => s b o e⟩
/-- of what type it is -/
theorem Kind.ty {H : Hp} {v : V} (K : PySem.W.Frag) (l : Kind H v) : ∃ T, TyX K H v (.type T) ∧ PySem.W.kitOne K (.type T) (.type "int") = some (isI v || isB v) ∧ PySem.W.kitOne K (.type T) (.type "bool") = some (isB v) ∧
    PySem.W.kitOne K (.type T) (.type "str") = some (isS v) ∧ ∃ c, PySem.W.kitOne K (.type T) (.type "tuple") = some c ∧ (c = true → ∃ a xs, v = .ref a ∧ H a = some (.tup xs) ∧ ∀ v ∈ xs, Kn H v) ∧ (c = false → ∀ a xs, v = .ref a → H a ≠ some (.tup xs)) := by
  have k := kits K
  cases l with
  | non => obtain ⟨h1, h2, h3, h4⟩ := k "NoneType" (by decide); exact ⟨_, .base .non, h1, h2, h3, _, h4, fun e => absurd e (by decide), fun _ a xs z => nomatch z⟩
  | bl c => obtain ⟨h1, h2, h3, h4⟩ := k "bool" (by decide); exact ⟨_, .base (.bl c), h1, h2, h3, _, h4, fun e => absurd e (by decide), fun _ a xs z => nomatch z⟩
  | int i h => obtain ⟨h1, h2, h3, h4⟩ := k "int" (by decide); exact ⟨_, .base (.int i), h1, h2, h3, _, h4, fun e => absurd e (by decide), fun _ a xs z => nomatch z⟩
  | str x h hc => obtain ⟨h1, h2, h3, h4⟩ := k "str" (by decide); exact ⟨_, .base (.str x), h1, h2, h3, _, h4, fun e => absurd e (by decide), fun _ a xs z => nomatch z⟩
  | lst h => obtain ⟨h1, h2, h3, h4⟩ := k "list" (by decide); exact ⟨_, .base (.lst h), h1, h2, h3, _, h4, fun e => absurd e (by decide), fun _ a xs z y => by cases z; rw [h] at y; cases y⟩
  | dic h => obtain ⟨h1, h2, h3, h4⟩ := k "dict" (by decide); exact ⟨_, .base (.dK h), h1, h2, h3, _, h4, fun e => absurd e (by decide), fun _ a xs z y => by cases z; rw [h] at y; cases y⟩
  | tup h hk => obtain ⟨h1, h2, h3, h4⟩ := k "tuple" (by decide); exact ⟨_, .base (.tup h), h1, h2, h3, _, h4, fun _ => ⟨_, _, rfl, h, hk⟩, fun e => absurd e (by decide)⟩
section
variable {X : Cx}
/-- repr(x), x of any kind -/
theorem call_reprV (hg : X.A.guards = some []) (hu : X.A.units + 64 < cLine) : CallR X (.builtin "repr") (fun vs H Q => ∃ (v : V) (d : Nat) (as : List Addr) (t : Str) (c : Nat), vs = [v] ∧ Shw H [v] d as [t] c ∧ d ≤ 60 ∧ c ≤ 16000000 ∧ Q (.str t) H) := by
  intro pins s σ H xs us Q I r h
  obtain ⟨v, d, as, t, c, rfl, hs, hd, hc, q⟩ := h
  obtain ⟨u, rfl, r1⟩ := vals1 r
  have hz : sizeLine = 16777216 := sizeLine_eq
  have hcost := hs.cost
  rw [piled_cons] at hcost
  have fin : ∀ tk, EP X pins σ Q (.str t s.toks) { s with toks := tk } := fun tk => ⟨.str _, H, I.tok _, ⟨_, rfl⟩, q⟩
  cases hs with
  | non r2 =>
    cases (show u = Value.none from r1)
    cases r2
    exact PySem.P.repr_of_none (fin _)
  | bl b r2 =>
    cases (show u = Value.bool b from r1)
    cases r2
    cases b <;> exact PySem.P.repr_of_bool (fin _)
  | int i hi r2 =>
    obtain ⟨tk, rfl⟩ := r1
    cases r2
    refine PySem.P.repr_of_int ?_ (fin _)
    by_cases h0 : i.natAbs = 0
    · rw [h0]; decide
    · exact (Nat.log2_lt h0).mpr (Nat.lt_trans hi (by decide +kernel))
  | str x hx hk r2 =>
    obtain ⟨tk, rfl⟩ := r1
    cases r2
    refine PySem.P.repr_of_str (fin _) ?_
    have := StrLaws.reprText_len x hk
    omega
  | @lst _ d0 _ _ _ a ys bs ts e hp q1 hn r2 =>
    cases r2
    cases (show u = Value.ref a from r1)
    obtain ⟨_, its, n, rx, hgt⟩ := (show ObjOk X.prog X.w H s.heap a (.lst ys) from I.hok a _ hp)
    have k := q1.runs I (by omega) its rx
    refine call_repr_slot (T := "list") (idr := "list.__repr__") (by omega) ⟨_, hgt, rfl⟩ PySem.F.slot_list_repr.toG ?_
    cases its with
    | nil =>
      cases k
      exact call_list_repr_empty ⟨_, hgt, rfl⟩ hgt rfl ⟨_, _, rfl, .str _, H, I.tok _, ⟨_, rfl⟩, q⟩
    | cons y l =>
      refine call_list_reprK (g := []) hgt rfl rfl hn (by simpa using k.length_eq) (fun i z hz => k.item i z (by simpa using hz)) hg (fun b _ => Clear.nil b) ?_ (fun _ _ e => e) (fun h' u tk hk => ?_) (by omega)
      · show X.A.units + 1 + (d0 + 1) < cLine
        omega
      · exact ⟨_, _, rfl, .str _, H, I.kept (t' := tk) hk, ⟨_, rfl⟩, q⟩
  | @tup _ d0 _ _ _ a ys bs ts e hp q1 hn r2 =>
    cases r2
    cases (show u = Value.ref a from r1)
    obtain ⟨_, its, rx, ob, hgt, hcl, n, hda⟩ := (show ObjOk X.prog X.w H s.heap a (.tup ys) from I.hok a _ hp)
    have k := q1.runs I (by omega) its rx
    refine call_repr_slot (T := "tuple") (idr := "tuple.__repr__") (by omega) ⟨_, hgt, hcl⟩ PySem.F.slot_tuple_repr ?_
    refine call_tuple_reprK (g := []) hgt hcl hda hn (by simpa using k) hg (fun b _ => Clear.nil b) ?_ (fun _ _ e => e) (fun h' u tk hk => ?_) (by omega)
    · show X.A.units + 1 + (d0 + 1) < cLine
      omega
    · exact ⟨_, _, rfl, .str _, H, I.kept (t' := tk) hk, ⟨_, rfl⟩, q⟩
  | @dic _ d0 _ _ _ a bs ts e ks hp hk q1 hn r2 =>
    cases r2
    cases (show u = Value.ref a from r1)
    obtain ⟨_, hsm, vv, rk, ob, es, ep, hgt, hex, hda, _, hpr, _⟩ := (show ObjOk X.prog X.w H s.heap a (.dK (ks.map fun p => (Sum.inr p.1, p.2))) from I.hok a _ hp)
    refine call_repr_slot (T := "dict") (idr := "dict.__repr__") (by omega) ⟨_, hgt, hex.1⟩ PySem.F.slot_dict_repr ?_
    refine call_dict_reprK (g := []) hgt hex.1 hda hsm hn (entries ks vv es.toList _ rk hpr hk fun ws hw => q1.runs I (by omega) ws hw) hg (fun b _ => Clear.nil b) ?_ (fun _ _ e => e) (fun h' u tk hk => ?_) (by omega)
    · show X.A.units + 1 + (d0 + 1) < cLine
      omega
    · exact ⟨_, _, rfl, .str _, H, I.kept (t' := tk) hk, ⟨_, rfl⟩, q⟩
end
end V1
/-! What is an integer, a version. -/
namespace V1
open PySem PySem.Spec PyProof.Rows L2
theorem same_none {H H' : Hp} {p : Addr} (s : Same H H') (n : H' p = none) : H p = none := by
  cases z : H p with
  | none => rfl
  | some o => rw [s p o z] at n; cases n
section
variable {X : Cx}
/-- a list == [] -/
theorem op_eqL0 (hu : X.A.units < cLine) : OpR X (compareOp .Eq) (fun x y H Q => ∃ (a b : Addr) (xs : List V), x = .ref a ∧ y = .ref b ∧ H a = some (.lst xs) ∧ H b = some (.lst []) ∧ Q (.bl xs.isEmpty) H) := by
  intro pins s σ H x y v u Q I rx ry h
  obtain ⟨a, b, xs, rfl, rfl, ha, hb, q⟩ := h
  cases (show v = Value.ref a from rx)
  cases (show u = Value.ref b from ry)
  obtain ⟨i1, r1, p1, _⟩ := I.list (.inl (.inl ha))
  obtain ⟨i2, r2, p2, _⟩ := I.list (.inl (.inl hb))
  cases r2
  cases r1 with
  | nil => exact SeqAt.eq_listAt (e := fun _ => true) p1.isList p2.isList rfl hu (fun j _ h2 => absurd h2 (Nat.not_lt_zero j)) ⟨.bl true, H, I, rfl, q⟩
  | cons c d => exact SeqAt.eq_list_lengthsAt p1.isList p2.isList (by simp) hu ⟨.bl false, H, I, rfl, q⟩
end
def okP : V → Bool | .int i => decide (0 ≤ i) && decide (i < 1000000) | _ => false
/-- whether it is a VERSION -/
def isV (H : Hp) : V → Bool | .ref a => (match H a with | some (.tup xs) => decide (xs.length = 3) && xs.all okP | _ => false) | _ => false
theorem isV_tup {H : Hp} {a : Addr} {xs : List V} (h : H a = some (.tup xs)) : isV H (.ref a) = (decide (xs.length = 3) && xs.all okP) := by
  show (match H a with | some (.tup xs) => decide (xs.length = 3) && xs.all okP | _ => false) = _
  rw [h]
theorem isV_not {H : Hp} {v : V} (h : ∀ a xs, v = .ref a → H a ≠ some (.tup xs)) : isV H v = false := by
  cases v with
  | ref a =>
    show (match H a with | some (.tup xs) => decide (xs.length = 3) && xs.all okP | _ => false) = false
    split
    · rename_i xs e
      exact absurd e (h a xs rfl)
    · rfl
  | _ => rfl
abbrev sIsInt : Stmt := topS 11
abbrev sIsVer : Stmt := topS 12
abbrev sLIsVer : Stmt := topS 34
theorem scIsInt : FnScope ["thing"] ["thing"] (defScope sIsInt) := ⟨rfl, rfl, rfl, by decide +kernel, rfl, by decide +kernel, by decide +kernel⟩
theorem scIsVer : FnScope ["thing", "number"] ["thing"] (defScope sIsVer) := ⟨rfl, rfl, rfl, by decide +kernel, rfl, by decide +kernel, by decide +kernel⟩
theorem scLIsVer : FnScope ["thing", "part"] ["thing"] (defScope sLIsVer) := ⟨rfl, rfl, rfl, by decide +kernel, rfl, by decide +kernel, by decide +kernel⟩
section
variable {P : Program} {w : World} {K : PySem.W.Frag} {mg : PySem.Str → Option Value} {base : Heap}
def spIntK : Sp := fun vs H Q _ => ∃ v : V, vs = [v] ∧ Kn H v ∧ Q (.bl (isI v)) H
theorem ok_integerK {f : Addr} {fd : FuncData} {k : Nat} (F : Fun K "_law_integer" "_law_integer" sInteger f fd) (mS : mg "isinstance" = none) (mI : mg "int" = none) (mB : mg "bool" = none) : FnOk P w K mg base CX0 (k + 1) f fd ["thing"] spIntK := by
  refine F.ok scInteger (fun vs H Q E h => ?_) (fun cdv A outer s H vs Q E hr h => ?_)
  · obtain ⟨v, rfl, _⟩ := h
    rfl
  · obtain ⟨v, rfl, l, q⟩ := h
    refine ⟨_, pss_one (ps_ret (pe_and (pe_callB call_isi (by rfl) mS (by decide +kernel) (pa_cons (pv 0) (pa_cons (pe_bltn (v := .ty "int") (u := .type "int") (by rfl) mI (by decide +kernel) rfl) pa_nil)))
      (pe_one (pe_not (pe_callB call_isi (by rfl) mS (by decide +kernel) (pa_cons (pv 0) (pa_cons (pe_bltn (v := .ty "bool") (u := .type "bool") (by rfl) mB (by decide +kernel) rfl) pa_nil))))))), ?_⟩
    obtain ⟨T, ty, t1, t2, _⟩ := l.kind.ty K
    refine ⟨v, rfl, v, .ty "int", _, _, _, rfl, .ty "int", ty, t1, _, rfl, ite2 (fun e => ?_) (fun e => ?_)⟩
    · refine ⟨v, rfl, v, .ty "bool", _, _, _, rfl, .ty "bool", ty, t2, _, rfl, ?_⟩
      cases v <;> first | exact q | (simp [isI, isB] at e)
    · cases v <;> first | exact q | (simp [isI, isB] at e)
theorem ok_isint {f : Addr} {fd : FuncData} {k : Nat} (F : Fun K "is_integer" "is_integer" sIsInt f fd) (mS : mg "isinstance" = none) (mI : mg "int" = none) (mB : mg "bool" = none) : FnOk P w K mg base CX0 (k + 1) f fd ["thing"] spIntK := by
  refine F.ok scIsInt (fun vs H Q E h => ?_) (fun cdv A outer s H vs Q E hr h => ?_)
  · obtain ⟨v, rfl, _⟩ := h
    rfl
  · obtain ⟨v, rfl, l, q⟩ := h
    refine ⟨_, pss_one (ps_ret (pe_and (pe_callB call_isi (by rfl) mS (by decide +kernel) (pa_cons (pv 0) (pa_cons (pe_bltn (v := .ty "int") (u := .type "int") (by rfl) mI (by decide +kernel) rfl) pa_nil)))
      (pe_one (pe_not (pe_callB call_isi (by rfl) mS (by decide +kernel) (pa_cons (pv 0) (pa_cons (pe_bltn (v := .ty "bool") (u := .type "bool") (by rfl) mB (by decide +kernel) rfl) pa_nil))))))), ?_⟩
    obtain ⟨T, ty, t1, t2, _⟩ := l.kind.ty K
    refine ⟨v, rfl, v, .ty "int", _, _, _, rfl, .ty "int", ty, t1, _, rfl, ite2 (fun e => ?_) (fun e => ?_)⟩
    · refine ⟨v, rfl, v, .ty "bool", _, _, _, rfl, .ty "bool", ty, t2, _, rfl, ?_⟩
      cases v <;> first | exact q | (simp [isI, isB] at e)
    · cases v <;> first | exact q | (simp [isI, isB] at e)
def spIsV : Sp := fun vs H Q _ => ∃ v : V, vs = [v] ∧ Kn H v ∧ (∀ a xs, v = .ref a → H a = some (.tup xs) → xs.length ≤ 100000) ∧ ∀ H', Same H H' → Q (.bl (isV H v)) H'
theorem ok_isver {f fI : Addr} {fd fdI : FuncData} {k : Nat} (F : Fun K "is_version" "is_version" sIsVer f fd) (FI : Fun K "is_integer" "is_integer" sIsInt fI fdI) (bI : Binds K fdI ["thing"] []) (gI : mg "is_integer" = some (.ref fI)) {tk : Tok} (gG : mg "GREATEST" = some (.int 999999 tk))
    (mS : mg "isinstance" = none) (mI : mg "int" = none) (mB : mg "bool" = none) (mT : mg "tuple" = none) (mL : mg "len" = none) (mA : mg "all" = none) : FnOk P w K mg base CX0 (k + 2) f fd ["thing"] spIsV := by
  have GI : FnOk P w K mg base CX0 (k + 1) fI fdI ["thing"] spIntK := ok_isint FI mS mI mB
  refine F.ok scIsVer (fun vs H Q E h => ?_) (fun cdv A outer s H vs Q E hr h => ?_)
  · obtain ⟨v, rfl, _⟩ := h
    rfl
  · obtain ⟨v, rfl, l, hz, q⟩ := h
    refine ⟨_, pss_cons (ps_if (PW.pt (pw_or (pt_not (pt_val (pe_callB call_isi (by rfl) mS (by decide +kernel) (pa_cons (pv 0) (pa_cons (pe_bltn (v := .ty "tuple") (u := .type "tuple") (by rfl) mT (by decide +kernel) rfl) pa_nil)))))
          (pw_or1 (pt_cmpR op_ne (pe_callB call_len_seq (by rfl) mL PySem.boot_len (pa_cons (pv 0) pa_nil)) pe_int (nomark _))))) (pss_one (ps_ret pe_bl)) pss_nil)
      (pss_one (ps_ret (pe_callB (cr_all rfl) (by rfl) mA (by decide +kernel) (pa_cons (pe_lc (own := [("number", 1)]) (g := gName 1) rfl scIsVer.nd (pi_tup (pv 0)) (blkOk_by (N := ["thing", "number"]) (sc := defScope sIsVer) (by decide +kernel))
        (fun _ _ _ _ _ => pg_name (i := 1) scIsVer.nd rfl (Or.inl rfl)) (fun _ _ _ _ _ => pts_nil)
        (fun _ _ _ _ _ => pe_and (pe_call GI hr (by rfl) gI FI.kp bI .nil pass0 (pa_cons (pv 1) pa_nil)) (pe_one (pe_chain op_le op_le pe_int (pv 1) (pe_glob (v := .int 999999) (by rfl) gG ⟨_, rfl⟩))))) pa_nil)))), ?_⟩
    obtain ⟨T, ty, _, _, _, c, t4, t5, t6⟩ := l.kind.ty K
    refine ⟨v, rfl, v, .ty "tuple", _, _, _, rfl, .ty "tuple", ty, t4, c, rfl, ?_⟩
    cases c with
    | false =>
      have e := isV_not (t6 rfl)
      have q' := q H (Same.refl _)
      rw [e] at q'
      exact q'
    | true =>
      obtain ⟨a, xs, rfl, ha, its⟩ := t5 rfl
      have hlen := hz a xs rfl ha
      rw [isV_tup ha] at q
      refine ⟨_, rfl, a, xs, rfl, .inr (.inl (.inl ha)), rfl, _, rfl, ite2 (fun e => ?_) (fun e => ?_)⟩
      · have n3 : ¬ xs.length = 3 := fun z => by simp [z] at e
        rw [decide_eq_false n3] at q
        exact q H (Same.refl _)
      · have n3 : xs.length = 3 := by
          have e' : V.int (xs.length : Nat) = V.int 3 := by simpa using e
          injection e' with e'
          omega
        rw [decide_eq_true n3, Bool.true_and] at q
        refine ⟨_, rfl, a, rfl, ⟨xs, .inl (.inl ha)⟩, fun Dl nD => ?_⟩
        refine lc_it (walk_tup (xs := xs)) (fun j Hc => Hc Dl = some (.lst ((xs.take j).map fun v => .bl (okP v))) ∧ Same H Hc) ⟨by rw [List.take_zero]; exact upd_same, new_same nD⟩ (fun j Hc _ hP => .inl (.inl (hP.2 _ _ ha))) ?_ (fun Hc hP => ?_)
        · rintro j x Hc H' hj ⟨c1, c2⟩ ⟨rfl, hx⟩
          have kx : Kn H' x := (its x (List.mem_of_getElem? hx)).same c2
          have step : ∀ b : Bool, okP x = b → ∃ acc, H' Dl = some (.lst acc) ∧ acc.length < sizeLine ∧ upd H' Dl (.lst (acc ++ [.bl b])) Dl = some (.lst ((xs.take (j + 1)).map fun v => .bl (okP v))) ∧ Same H (upd H' Dl (.lst (acc ++ [.bl b]))) := by
            rintro b rfl
            refine ⟨_, c1, by rw [List.length_map, List.length_take, sizeLine_eq]; omega, ?_, fun y o h => ?_⟩
            · rw [upd_same, List.take_add_one, hx, List.map_append]
              rfl
            · rw [upd_ne (ne_of_none h nD)]
              exact c2 y o h
          refine ⟨rfl, x, rfl, x, rfl, kx, _, rfl, ite2 (fun e1 => ?_) (fun e1 => ?_)⟩
          · obtain ⟨i, rfl⟩ : ∃ i, x = .int i := by cases x <;> first | exact ⟨_, rfl⟩ | (simp [isI] at e1)
            refine ⟨.int i, rfl, 0, i, rfl, rfl, _, rfl, ite2 (fun e2 => ?_) (fun e2 => ?_)⟩
            · refine ⟨i, 999999, rfl, rfl, step _ ?_⟩
              have e2' := of_decide_eq_true e2
              show (decide (0 ≤ i) && decide (i < 1000000)) = decide (i ≤ 999999)
              rw [decide_eq_true e2', Bool.true_and]
              exact decide_eq_decide.mpr ⟨fun z => by omega, fun z => by omega⟩
            · refine step _ ?_
              have e2' : ¬ 0 ≤ i := fun z => e2 (decide_eq_true z)
              show (decide (0 ≤ i) && decide (i < 1000000)) = false
              rw [decide_eq_false e2', Bool.false_and]
          · refine step _ ?_
            cases x <;> first | rfl | (simp [isI] at e1)
        · obtain ⟨c1, c2⟩ := hP
          rw [List.take_length] at c1
          refine ⟨Dl, xs.map okP, rfl, .inl (.inl (by rw [c1, List.map_map]; rfl)), ?_⟩
          rw [List.all_map]
          exact q Hc c2
theorem ok_lisver {f fI : Addr} {fd fdI : FuncData} {k : Nat} (F : Fun K "_law_is_version" "_law_is_version" sLIsVer f fd) (FI : Fun K "_law_integer" "_law_integer" sInteger fI fdI) (bI : Binds K fdI ["thing"] []) (gI : mg "_law_integer" = some (.ref fI))
    (mS : mg "isinstance" = none) (mI : mg "int" = none) (mB : mg "bool" = none) (mT : mg "tuple" = none) (mL : mg "len" = none) : FnOk P w K mg base CX0 (k + 2) f fd ["thing"] spIsV := by
  have GI : FnOk P w K mg base CX0 (k + 1) fI fdI ["thing"] spIntK := ok_integerK FI mS mI mB
  refine F.ok scLIsVer (fun vs H Q E h => ?_) (fun cdv A outer s H vs Q E hr h => ?_)
  · obtain ⟨v, rfl, _⟩ := h
    rfl
  · obtain ⟨v, rfl, l, hz, q⟩ := h
    refine ⟨_, pss_cons (ps_if (PW.pt (pw_or (pt_not (pt_val (pe_callB call_isi (by rfl) mS (by decide +kernel) (pa_cons (pv 0) (pa_cons (pe_bltn (v := .ty "tuple") (u := .type "tuple") (by rfl) mT (by decide +kernel) rfl) pa_nil)))))
          (pw_or1 (pt_cmpR op_ne (pe_callB call_len_seq (by rfl) mL PySem.boot_len (pa_cons (pv 0) pa_nil)) pe_int (nomark _))))) (pss_one (ps_ret pe_bl)) pss_nil)
      (pss_one (ps_ret (pe_cmpR (op_eqL0 hr.units0) (pe_lc (own := [("part", 1)]) (g := gName 1) rfl scLIsVer.nd (pi_tup (pv 0)) (blkOk_by (N := ["thing", "part"]) (sc := defScope sLIsVer) (by decide +kernel))
        (fun _ _ _ _ _ => pg_name (i := 1) scLIsVer.nd rfl (Or.inl rfl))
        (fun _ _ _ _ _ => pts_one (PW.pt (pw_or (pt_not (pt_val (pe_call GI hr (by rfl) gI FI.kp bI .nil pass0 (pa_cons (pv 1) pa_nil)))) (pw_or1 (pt_not (pt_chain op_le op_lt pe_int (pv 1) (pe_op op_pow pe_int pe_int)))))))
        (fun _ _ _ _ _ => pv 1)) (pe_lst pa_nil) (nomark _)))), ?_⟩
    obtain ⟨T, ty, _, _, _, c, t4, t5, t6⟩ := l.kind.ty K
    refine ⟨v, rfl, v, .ty "tuple", _, _, _, rfl, .ty "tuple", ty, t4, c, rfl, ?_⟩
    cases c with
    | false =>
      have e := isV_not (t6 rfl)
      have q' := q H (Same.refl _)
      rw [e] at q'
      exact q'
    | true =>
      obtain ⟨a, xs, rfl, ha, its⟩ := t5 rfl
      have hlen := hz a xs rfl ha
      rw [isV_tup ha] at q
      refine ⟨_, rfl, a, xs, rfl, .inr (.inl (.inl ha)), rfl, _, rfl, ite2 (fun e => ?_) (fun e => ?_)⟩
      · have n3 : ¬ xs.length = 3 := fun z => by simp [z] at e
        rw [decide_eq_false n3] at q
        exact q H (Same.refl _)
      · have n3 : xs.length = 3 := by
          have e' : V.int (xs.length : Nat) = V.int 3 := by simpa using e
          injection e' with e'
          omega
        rw [decide_eq_true n3, Bool.true_and] at q
        refine ⟨_, rfl, a, rfl, ⟨xs, .inl (.inl ha)⟩, fun Dl nD => ?_⟩
        refine lc_it (walk_tup (xs := xs)) (fun j Hc => Same H Hc ∧ ∃ acc, Hc Dl = some (.lst acc) ∧ acc.length ≤ j ∧ acc.isEmpty = (xs.take j).all okP) ⟨new_same nD, [], upd_same, Nat.le_refl _, by rw [List.take_zero]; rfl⟩ (fun j Hc _ hP => .inl (.inl (hP.1 _ _ ha))) ?_ (fun Hc hP => ?_)
        · rintro j x Hc H' hj ⟨c2, acc, c1, c3, c4⟩ ⟨rfl, hx⟩
          have kx : Kn H' x := (its x (List.mem_of_getElem? hx)).same c2
          have yes : okP x = true → Same H H' ∧ ∃ acc, H' Dl = some (.lst acc) ∧ acc.length ≤ j + 1 ∧ acc.isEmpty = (xs.take (j + 1)).all okP := fun e => by
            refine ⟨c2, acc, c1, by omega, ?_⟩
            rw [List.take_add_one, hx, List.all_append, c4]
            simp [e]
          have no : okP x = false → ∃ acc, H' Dl = some (.lst acc) ∧ acc.length < sizeLine ∧ Same H (upd H' Dl (.lst (acc ++ [x]))) ∧ ∃ ac, upd H' Dl (.lst (acc ++ [x])) Dl = some (.lst ac) ∧ ac.length ≤ j + 1 ∧ ac.isEmpty = (xs.take (j + 1)).all okP := fun e => by
            refine ⟨acc, c1, by rw [sizeLine_eq]; omega, fun y o h => ?_, acc ++ [x], upd_same, by rw [List.length_append]; show acc.length + 1 ≤ _; omega, ?_⟩
            · rw [upd_ne (ne_of_none h nD)]
              exact c2 y o h
            · rw [List.take_add_one, hx, List.all_append]
              simp [e]
          refine ⟨rfl, x, rfl, x, rfl, kx, _, rfl, ite2 (fun e1 => ?_) (fun e1 => ?_)⟩
          · exact ⟨x, rfl, no (by cases x <;> first | rfl | (simp [isI] at e1))⟩
          · obtain ⟨i, rfl⟩ : ∃ i, x = .int i := by cases x <;> first | exact ⟨_, rfl⟩ | (simp [isI] at e1)
            refine ⟨.int i, rfl, 0, i, rfl, rfl, _, rfl, ite2 (fun e2 => ?_) (fun e2 => ?_)⟩
            · have e2' := of_decide_eq_true e2
              have e6 : (10 : Int) ^ (6 : Int).toNat = 1000000 := by decide
              refine ⟨10, 6, rfl, rfl, ⟨by decide, by decide, by decide⟩, i, _, rfl, rfl, _, rfl, ?_⟩
              rw [e6]
              by_cases h9 : i < 1000000
              · rw [decide_eq_true h9]
                exact yes (by show (decide (0 ≤ i) && decide (i < 1000000)) = true; rw [decide_eq_true e2', decide_eq_true h9]; rfl)
              · rw [decide_eq_false h9]
                exact ⟨.int i, rfl, no (by show (decide (0 ≤ i) && decide (i < 1000000)) = false; rw [decide_eq_false h9, Bool.and_false])⟩
            · have e2' : ¬ 0 ≤ i := fun z => e2 (decide_eq_true z)
              exact ⟨_, rfl, .int i, rfl, no (by show (decide (0 ≤ i) && decide (i < 1000000)) = false; rw [decide_eq_false e2', Bool.false_and])⟩
        · obtain ⟨c2, acc, c1, c3, c4⟩ := hP
          rw [List.take_length] at c4
          refine ⟨by show 0 ≤ sizeLine; exact Nat.zero_le _, fun r nr => ⟨Dl, r, acc, rfl, rfl, new_ne c1 nr, upd_same, ?_⟩⟩
          rw [c4]
          exact q _ (c2.trans (new_same nr))
end
end V1
/-! What is a name. -/
namespace V1
open PySem PySem.Spec PyProof.Rows L2
def Lt : PySem.Str := "abcdefghijklmnopqrstuvwxyz"
def Nz : PySem.Str := "abcdefghijklmnopqrstuvwxyz0123456789-"
def headIn (x : PySem.Str) : Bool := match x.cps.toList with | c :: _ => decide (c ∈ Lt.cps.toList) | [] => false
def allIn (z : PySem.Str) (l : List Nat) : Bool := l.all fun c => decide (c ∈ z.cps.toList)
/-- whether it is a NAME -/
def isN : V → Bool | .str x => decide (1 ≤ x.length) && decide (x.length ≤ 20) && (headIn x && allIn Nz x.cps.toList) | _ => false
abbrev sIsName : Stmt := topS 13
abbrev sLIsName : Stmt := topS 35
theorem scIsName : FnScope ["thing", "sign"] ["thing"] (defScope sIsName) := ⟨rfl, rfl, rfl, by decide +kernel, rfl, by decide +kernel, by decide +kernel⟩
theorem scLIsName : FnScope ["thing", "sign"] ["thing"] (defScope sLIsName) := ⟨rfl, rfl, rfl, by decide +kernel, rfl, by decide +kernel, by decide +kernel⟩
theorem head_at {x : PySem.Str} (h : 1 ≤ x.length) : ∃ c, atI x.cps.toList 0 = some c ∧ headIn x = decide (c ∈ Lt.cps.toList) := by
  unfold headIn
  have hl : 1 ≤ x.cps.toList.length := h
  cases e : x.cps.toList with
  | nil => rw [e] at hl; simp at hl
  | cons c l => exact ⟨c, atI_nat (j := 0) rfl, rfl⟩
section
variable {P : Program} {w : World} {K : PySem.W.Frag} {mg : PySem.Str → Option Value} {base : Heap}
def spIsN : Sp := fun vs H Q _ => ∃ v : V, vs = [v] ∧ Kn H v ∧ ∀ H', Same H H' → Q (.bl (isN v)) H'
theorem ok_isname {f : Addr} {fd : FuncData} {k : Nat} (F : Fun K "is_name" "is_name" sIsName f fd) {t1 t2 t3 : Tok} (gL : mg "LONGEST_NAME" = some (.int 20 t1)) (gA : mg "LETTERS" = some (.str Lt t2)) (gN : mg "NAME_SIGNS" = some (.str Nz t3))
    (mS : mg "isinstance" = none) (mT : mg "str" = none) (mL : mg "len" = none) (mA : mg "all" = none) : FnOk P w K mg base CX0 (k + 1) f fd ["thing"] spIsN := by
  refine F.ok scIsName (fun vs H Q E h => ?_) (fun cdv A outer s H vs Q E hr h => ?_)
  · obtain ⟨v, rfl, _⟩ := h
    rfl
  · obtain ⟨v, rfl, l, q⟩ := h
    refine ⟨_, pss_cons (ps_if (PW.pt (pw_or (pt_not (pt_val (pe_callB call_isi (by rfl) mS (by decide +kernel) (pa_cons (pv 0) (pa_cons (pe_bltn (v := .ty "str") (u := .type "str") (by rfl) mT (by decide +kernel) rfl) pa_nil)))))
          (pw_or1 (pt_not (pt_chain op_le op_le pe_int (pe_callB call_len_str (by rfl) mL PySem.boot_len (pa_cons (pv 0) pa_nil)) (pe_glob (v := .int 20) (by rfl) gL ⟨_, rfl⟩)))))) (pss_one (ps_ret pe_bl)) pss_nil)
      (pss_one (ps_ret (pe_and (pe_cmpR op_in_sign (pe_ix ix_str (pv 0) pe_int (fun _ _ => rfl)) (pe_glob (v := .str Lt) (by rfl) gA ⟨_, rfl⟩) (by rfl))
        (pe_one (pe_callB (cr_all rfl) (by rfl) mA (by decide +kernel) (pa_cons (pe_lc (own := [("sign", 1)]) (g := gName 1) rfl scIsName.nd (pi_str (pv 0)) (blkOk_by (N := ["thing", "sign"]) (sc := defScope sIsName) (by decide +kernel))
          (fun _ _ _ _ _ => pg_name (i := 1) scIsName.nd rfl (Or.inl rfl)) (fun _ _ _ _ _ => pts_nil)
          (fun _ _ _ _ _ => pe_cmpR op_in_sign (pv 1) (pe_glob (v := .str Nz) (by rfl) gN ⟨_, rfl⟩) (by rfl))) pa_nil)))))), ?_⟩
    obtain ⟨T, ty, _, _, t3, _⟩ := l.kind.ty K
    refine ⟨v, rfl, v, .ty "str", _, _, _, rfl, .ty "str", ty, t3, _, rfl, ite2 (fun e => ?_) (fun e => ?_)⟩
    · have q' := q H (Same.refl _)
      cases v <;> first | exact q' | (simp [isS] at e)
    · obtain ⟨x, rfl⟩ : ∃ x, v = .str x := by cases v <;> first | exact ⟨_, rfl⟩ | (simp [isS] at e)
      have hk := l.kind
      cases hk with
      | str _ hx hc =>
        have hz : x.length ≤ sizeLine := by rw [sizeLine_eq]; omega
        refine ⟨.str x, rfl, x, rfl, hz, 1, (x.length : Nat), rfl, rfl, _, rfl, ite2 (fun e1 => ?_) (fun e1 => ?_)⟩
        · have h1 : 1 ≤ x.length := by have := of_decide_eq_true e1; omega
          refine ⟨(x.length : Nat), 20, rfl, rfl, _, rfl, ?_⟩
          by_cases h2 : x.length ≤ 20
          · rw [decide_eq_true (show ((x.length : Nat) : Int) ≤ 20 by omega)]
            obtain ⟨c, hc0, hhd⟩ := head_at h1
            have qq : ∀ H', Same H H' → Q (.bl (decide (c ∈ Lt.cps.toList) && allIn Nz x.cps.toList)) H' := fun H' s => by
              have z := q H' s
              have e0 : isN (.str x) = (decide (c ∈ Lt.cps.toList) && allIn Nz x.cps.toList) := by
                show (decide (1 ≤ x.length) && decide (x.length ≤ 20) && (headIn x && allIn Nz x.cps.toList)) = _
                rw [decide_eq_true h1, decide_eq_true h2, hhd]
                rfl
              rw [e0] at z
              exact z
            refine ⟨.str x, rfl, x, 0, c, rfl, rfl, hz, hc0, c, Lt, rfl, rfl, _, rfl, ite2 (fun e3 => ?_) (fun e3 => ?_)⟩
            · rw [e3] at qq
              refine ⟨.str x, rfl, x, rfl, fun Dl nD => ?_⟩
              refine lc_it (walk_str (z := x)) (fun j Hc => Hc Dl = some (.lst ((x.cps.toList.take j).map fun c => .bl (decide (c ∈ Nz.cps.toList)))) ∧ Same H Hc) ⟨by rw [List.take_zero]; exact upd_same, new_same nD⟩ (fun j Hc _ hP => trivial) ?_ (fun Hc hP => ?_)
              · rintro j v Hc H' hj ⟨c1, c2⟩ ⟨rfl, c, hx, rfl⟩
                have hx' : x.cps.toList[j]? = some c := by rw [Array.getElem?_toList]; exact hx
                refine ⟨rfl, .str ⟨#[c]⟩, rfl, c, Nz, rfl, rfl, _, c1, by rw [List.length_map, List.length_take, sizeLine_eq]; have : x.cps.size = x.length := rfl; omega, ?_, fun y o h => ?_⟩
                · rw [upd_same, List.take_add_one, hx', List.map_append]
                  rfl
                · rw [upd_ne (ne_of_none h nD)]
                  exact c2 y o h
              · obtain ⟨c1, c2⟩ := hP
                have e9 : x.cps.toList.take x.cps.size = x.cps.toList := List.take_of_length_le (by simp)
                rw [e9] at c1
                refine ⟨Dl, x.cps.toList.map fun c => decide (c ∈ Nz.cps.toList), rfl, .inl (.inl (by rw [c1, List.map_map]; rfl)), ?_⟩
                rw [List.all_map]
                exact qq Hc c2
            · have e4 : decide (c ∈ Lt.cps.toList) = false := by simpa using e3
              rw [e4] at qq
              exact qq H (Same.refl _)
          · rw [decide_eq_false (show ¬ ((x.length : Nat) : Int) ≤ 20 by omega)]
            have z := q H (Same.refl _)
            have e0 : isN (.str x) = false := by
              show (decide (1 ≤ x.length) && decide (x.length ≤ 20) && (headIn x && allIn Nz x.cps.toList)) = _
              rw [decide_eq_false h2, Bool.and_false]
              rfl
            rw [e0] at z
            exact z
        · have h1 : ¬ 1 ≤ x.length := fun z => e1 (decide_eq_true (by omega))
          have z := q H (Same.refl _)
          have e0 : isN (.str x) = false := by
            show (decide (1 ≤ x.length) && decide (x.length ≤ 20) && (headIn x && allIn Nz x.cps.toList)) = _
            rw [decide_eq_false h1]
            rfl
          rw [e0] at z
          exact ⟨_, rfl, z⟩
theorem ok_lisname {f : Addr} {fd : FuncData} {k : Nat} (F : Fun K "_law_is_name" "_law_is_name" sLIsName f fd)
    (mS : mg "isinstance" = none) (mT : mg "str" = none) (mL : mg "len" = none) : FnOk P w K mg base CX0 (k + 1) f fd ["thing"] spIsN := by
  refine F.ok scLIsName (fun vs H Q E h => ?_) (fun cdv A outer s H vs Q E hr h => ?_)
  · obtain ⟨v, rfl, _⟩ := h
    rfl
  · obtain ⟨v, rfl, l, q⟩ := h
    refine ⟨_, pss_cons (ps_if (PW.pt (pw_or (pt_not (pt_val (pe_callB call_isi (by rfl) mS (by decide +kernel) (pa_cons (pv 0) (pa_cons (pe_bltn (v := .ty "str") (u := .type "str") (by rfl) mT (by decide +kernel) rfl) pa_nil)))))
          (pw_or (pt_not (pt_chain op_lt op_lt pe_int (pe_callB call_len_str (by rfl) mL PySem.boot_len (pa_cons (pv 0) pa_nil)) pe_int)) (pw_or1 (pt_cmpR op_notIn_sign (pe_ix ix_str (pv 0) pe_int (fun _ _ => rfl)) pe_str (by rfl)))))) (pss_one (ps_ret pe_bl)) pss_nil)
      (pss_one (ps_ret (pe_cmpR (op_eqL0 hr.units0) (pe_lc (own := [("sign", 1)]) (g := gName 1) rfl scLIsName.nd (pi_str (pv 0)) (blkOk_by (N := ["thing", "sign"]) (sc := defScope sLIsName) (by decide +kernel))
          (fun _ _ _ _ _ => pg_name (i := 1) scLIsName.nd rfl (Or.inl rfl)) (fun _ _ _ _ _ => pts_one (pt_cmpR op_notIn_sign (pv 1) pe_str (by rfl)))
          (fun _ _ _ _ _ => pv 1)) (pe_lst pa_nil) (nomark _)))), ?_⟩
    obtain ⟨T, ty, _, _, t3, _⟩ := l.kind.ty K
    refine ⟨v, rfl, v, .ty "str", _, _, _, rfl, .ty "str", ty, t3, _, rfl, ite2 (fun e => ?_) (fun e => ?_)⟩
    · have q' := q H (Same.refl _)
      cases v <;> first | exact q' | (simp [isS] at e)
    · obtain ⟨x, rfl⟩ : ∃ x, v = .str x := by cases v <;> first | exact ⟨_, rfl⟩ | (simp [isS] at e)
      have hk := l.kind
      cases hk with
      | str _ hx hc =>
        have hz : x.length ≤ sizeLine := by rw [sizeLine_eq]; omega
        refine ⟨.str x, rfl, x, rfl, hz, 0, (x.length : Nat), rfl, rfl, _, rfl, ite2 (fun e1 => ?_) (fun e1 => ?_)⟩
        · have h1 : 1 ≤ x.length := by have := of_decide_eq_true e1; omega
          refine ⟨(x.length : Nat), 21, rfl, rfl, _, rfl, ?_⟩
          by_cases h2 : x.length ≤ 20
          · rw [decide_eq_true (show ((x.length : Nat) : Int) < 21 by omega)]
            obtain ⟨c, hc0, hhd⟩ := head_at h1
            have qq : ∀ H', Same H H' → Q (.bl (decide (c ∈ Lt.cps.toList) && allIn Nz x.cps.toList)) H' := fun H' s => by
              have z := q H' s
              have e0 : isN (.str x) = (decide (c ∈ Lt.cps.toList) && allIn Nz x.cps.toList) := by
                show (decide (1 ≤ x.length) && decide (x.length ≤ 20) && (headIn x && allIn Nz x.cps.toList)) = _
                rw [decide_eq_true h1, decide_eq_true h2, hhd]
                rfl
              rw [e0] at z
              exact z
            refine ⟨.str x, rfl, x, 0, c, rfl, rfl, hz, hc0, c, Lt, rfl, rfl, _, rfl, ?_⟩
            by_cases e3 : decide (c ∈ Lt.cps.toList) = true
            · rw [e3] at qq ⊢
              refine ⟨.str x, rfl, x, rfl, fun Dl nD => ?_⟩
              refine lc_it (walk_str (z := x)) (fun j Hc => Same H Hc ∧ ∃ acc, Hc Dl = some (.lst acc) ∧ acc.length ≤ j ∧ acc.isEmpty = allIn Nz (x.cps.toList.take j)) ⟨new_same nD, [], upd_same, Nat.le_refl _, by rw [List.take_zero]; rfl⟩ (fun j Hc _ hP => trivial) ?_ (fun Hc hP => ?_)
              · rintro j v Hc H' hj ⟨c2, acc, c1, c3, c4⟩ ⟨rfl, c, hx, rfl⟩
                have hx' : x.cps.toList[j]? = some c := by rw [Array.getElem?_toList]; exact hx
                have e7 : allIn Nz (x.cps.toList.take (j + 1)) = (acc.isEmpty && decide (c ∈ Nz.cps.toList)) := by
                  unfold allIn at c4 ⊢
                  rw [List.take_add_one, hx', List.all_append, c4]
                  simp
                refine ⟨rfl, .str ⟨#[c]⟩, rfl, c, Nz, rfl, rfl, _, rfl, ?_⟩
                by_cases e8 : decide (c ∈ Nz.cps.toList) = true
                · rw [e8, Bool.and_true] at e7
                  rw [e8]
                  exact ⟨c2, acc, c1, by omega, e7.symm⟩
                · have e8' : decide (c ∈ Nz.cps.toList) = false := by simpa using e8
                  rw [e8', Bool.and_false] at e7
                  rw [e8']
                  have : x.cps.size = x.length := rfl
                  refine ⟨.str ⟨#[c]⟩, rfl, acc, c1, by rw [sizeLine_eq]; omega, fun y o h => ?_, acc ++ [.str ⟨#[c]⟩], upd_same, by rw [List.length_append]; show acc.length + 1 ≤ _; omega, ?_⟩
                  · rw [upd_ne (ne_of_none h nD)]
                    exact c2 y o h
                  · rw [e7]
                    simp
              · obtain ⟨c2, acc, c1, c3, c4⟩ := hP
                have e9 : x.cps.toList.take x.cps.size = x.cps.toList := List.take_of_length_le (by simp)
                rw [e9] at c4
                refine ⟨by show 0 ≤ sizeLine; exact Nat.zero_le _, fun r nr => ⟨Dl, r, acc, rfl, rfl, new_ne c1 nr, upd_same, ?_⟩⟩
                rw [c4]
                exact qq _ (c2.trans (new_same nr))
            · have e4 : decide (c ∈ Lt.cps.toList) = false := by simpa using e3
              rw [e4] at qq ⊢
              exact qq H (Same.refl _)
          · rw [decide_eq_false (show ¬ ((x.length : Nat) : Int) < 21 by omega)]
            have z := q H (Same.refl _)
            have e0 : isN (.str x) = false := by
              show (decide (1 ≤ x.length) && decide (x.length ≤ 20) && (headIn x && allIn Nz x.cps.toList)) = _
              rw [decide_eq_false h2, Bool.and_false]
              rfl
            rw [e0] at z
            exact z
        · have h1 : ¬ 1 ≤ x.length := fun z => e1 (decide_eq_true (by omega))
          have z := q H (Same.refl _)
          have e0 : isN (.str x) = false := by
            show (decide (1 ≤ x.length) && decide (x.length ≤ 20) && (headIn x && allIn Nz x.cps.toList)) = _
            rw [decide_eq_false h1]
            rfl
          rw [e0] at z
          exact ⟨_, rfl, z⟩
end
end V1
/-! A tuple nought times, once, twice. -/
namespace V1
open PySem PySem.Spec PyProof.Rows L2
theorem mul_one (l : Addr) (items : Array Value) (n : Nat) (dd : Option Addr) (sl : Array (Option Value)) (u : Tok) (c1 : items.isEmpty = false) :
    Meets (Builtin.«tuple.__mul__» ⟨[.ref l, .int 1 u], []⟩) (fun _ R s => s.heap.get? l = some { cls := .type "tuple", dict := dd, data := .seq items n, slots := sl } ∧ R (.ok (.ret (Value.ref l))) s) :=
  .of_wp fun prog w A R s h => by
    obtain ⟨hp, g, d, tk, os⟩ := s
    obtain ⟨hl, h⟩ := h
    have f1 := AutoSeq1.idx_int
    wp_walk using wpAny_loadPart' hl
    repeat (first
      | (refine wpAny_ite_false (by decide) ?_; wp_walk using wpAny_loadPart' hl)
      | (refine wpAny_ite_true (by simp) ?_; wp_walk using wpAny_loadPart' hl))
    exact ⟨_, rfl, h⟩
theorem mul_nought (l : Addr) (items : Array Value) (n : Nat) (dd : Option Addr) (sl : Array (Option Value)) (u : Tok) (c1 : (items.isEmpty || (0 : Int) == 1) = false) :
    Meets (Builtin.«tuple.__mul__» ⟨[.ref l, .int 0 u], []⟩) (fun _ R s => s.heap.get? l = some { cls := .type "tuple", dict := dd, data := .seq items n, slots := sl } ∧
      R (.ok (.ret (Value.ref s.heap.objs.size))) { s with heap := s.heap.push { cls := Value.type "tuple", data := Data.seq #[] }, toks := s.toks }) :=
  .of_wp fun prog w A R s h => by
    obtain ⟨hp, g, d, tk, os⟩ := s
    obtain ⟨hl, h⟩ := h
    have f1 := AutoSeq1.idx_int
    wp_walk using wpAny_loadPart' hl
    repeat (first
      | (refine wpAny_ite_false (decide_eq_false (by rw [c1]; exact Bool.false_ne_true)) ?_; wp_walk using wpAny_loadPart' hl)
      | (refine wpAny_ite_false (by decide) ?_; wp_walk using wpAny_loadPart' hl)
      | (refine wpAny_ite_true (by simp) ?_; wp_walk using wpAny_loadPart' hl))
    exact ⟨_, rfl, h⟩
section
variable {X : Cx}
/-- t * k, k not above 2 -/
theorem op_rep3 : OpR X (binaryOp .Mult) (fun x y H Q => ∃ l k xs, x = .ref l ∧ y = .int k ∧ H l = some (.tup xs) ∧ xs ≠ [] ∧ 0 ≤ k ∧ k ≤ 2 ∧ xs.length ≤ 1000 ∧ ∀ H' p, Same H H' → H' p = some (.tup (List.replicate k.toNat xs).flatten) → Q (.ref p) H') := by
  intro pins s σ H x y v u Q I rx ry h
  obtain ⟨l, k, xs, rfl, rfl, hT, hne, h1, h2, hz, q⟩ := h
  by_cases k2 : k = 2
  · subst k2
    exact op_repT pins s σ H _ _ v u Q I rx ry ⟨l, 2, xs, rfl, rfl, .inl (.inl hT), hne, by decide, by decide, hz, fun p np => q _ p (new_same np) upd_same⟩
  cases rx
  obtain ⟨t, rfl⟩ := ry
  obtain ⟨its, r, ⟨⟨cls, dd, data, sl⟩, ho, hc, n, hd⟩, hs⟩ := I.tuple (.inl (.inl hT))
  simp only at hc hd
  subst hc hd
  have hle : its.length = xs.length := r.length.symm
  have hn : its ≠ [] := fun e => hne (by
    rw [e] at hle
    exact List.eq_nil_of_length_eq_zero hle.symm)
  have hi : its.toArray.isEmpty = false := by
    cases its with
    | nil => exact absurd rfl hn
    | cons a b => rfl
  have go : ∀ R : Value → Shared → Prop, wpAny (model X.prog X.w) X.A (call (.builtin "tuple.__mul__") [.ref l, .int k t]) R X.xe s → wpAny (model X.prog X.w) X.A (binaryOp .Mult (.ref l) (.int k t)) R X.xe s := fun R hR =>
    wpAny_binaryOp_repeat_ref (T := "tuple") (U := "int") (by decide) ⟨_, ho, rfl⟩ (fun s' => typeIs_int s' k t) noFill_tuple_mul F.fills_int_mul F.slot_int_rmul repeat_tuple F.slot_int_index.lookup
      (call_meets F.slot_int_rmul (typeIs_int s k t) F.entry_int_rmul (F.args_int_rmul_2 _ _) (int_rmul_tuple k t l its.toArray n dd sl) ⟨ho, rfl, ⟨_, ho, rfl⟩, hR⟩)
  refine go _ ?_
  by_cases k1 : k = 1
  · subst k1
    refine call_meets F.slot_tuple_mul ⟨_, ho, rfl⟩ F.entry_tuple_mul (F.args_tuple_mul_2 _ _) (mul_one l its.toArray n dd sl t hi) ⟨ho, ?_⟩
    exact ⟨.ref l, H, I, rfl, q H l (Same.refl _) (by simpa using hT)⟩
  · have k0 : k = 0 := by omega
    subst k0
    refine call_meets F.slot_tuple_mul ⟨_, ho, rfl⟩ F.entry_tuple_mul (F.args_tuple_mul_2 _ _) (mul_nought l its.toArray n dd sl t (by rw [hi]; rfl)) ⟨ho, ?_⟩
    refine ⟨.ref s.heap.objs.size, _, I.laid (t' := s.toks) (o := .tup []) (fun b ob q => Heap.get?_push_of_some _ q) (Nat.le_refl _) ?_, rfl, q _ _ (new_same (I.hok.fresh (Nat.le_refl _))) upd_same⟩
    exact ⟨Nat.zero_le _, _, .nil, IsTup.new _ _⟩
end
end V1
/-! Versions: raised, the next one. -/
namespace V1
open PySem PySem.Spec PyProof.Rows L2
section
variable {X : Cx}
/-- t[lo:hi] -/
theorem sl_t : SlR X (fun x lo hi H Q => ∃ a xs, x = .ref a ∧ H a = some (.tup xs) ∧ ∀ H' p, Same H H' → H' p = some (.tup (cutV xs lo hi)) → Q (.ref p) H') := by
  intro pins s σ H x v vl vu lo hi sl Q I rx hs pl pu h
  obtain ⟨a, xs, rfl, ha, q⟩ := h
  refine sl_tupA pins s σ H _ v vl vu lo hi sl Q I rx hs pl pu ⟨a, xs, rfl, .inl (.inl ha), fun hw => ?_, fun _ p hp => ?_⟩
  · exact q H a (Same.refl H) (by rw [cut_all hw]; exact ha)
  · exact q _ p (new_same hp) upd_same
/-- t + u -/
theorem op_catt : OpR X (binaryOp .Add) (fun x y H Q => ∃ a c xs ys, x = .ref a ∧ y = .ref c ∧ H a = some (.tup xs) ∧ H c = some (.tup ys) ∧ xs.length + ys.length ≤ 1000 ∧ ∀ H' p, Same H H' → H' p = some (.tup (xs ++ ys)) → Q (.ref p) H') := by
  intro pins s σ H x y v u Q I rx ry h
  obtain ⟨a, c, xs, ys, rfl, rfl, t1, t2, hl, q⟩ := h
  refine op_catA pins s σ H _ _ v u Q I rx ry ⟨a, c, xs, ys, rfl, rfl, .inl (.inl t1), .inl (.inl t2), by rw [sizeLine_eq]; omega, fun hx => ?_, fun _ hy => ?_, fun _ _ p hp => ?_⟩
  · subst hx
    exact q H c (Same.refl H) t2
  · subst hy
    exact q H a (Same.refl H) (by rw [List.append_nil]; exact t1)
  · exact q _ p (new_same hp) upd_same
end
/-- a version's numbers -/
def Vs (ns : List Int) : Prop := ns.length = 3 ∧ ∀ n ∈ ns, 0 ≤ n ∧ n < 1000000
def rsd (ns : List Int) (k : Nat) : Option (List Int) := if ns.getD k 0 = 999999 then none else some (ns.take k ++ [ns.getD k 0 + 1] ++ List.replicate (2 - k) 0)
def aft (ns : List Int) : Option (List Int) := match rsd ns 2 with | some l => some l | none => match rsd ns 1 with | some l => some l | none => rsd ns 0
/-- None, or a new tuple of these numbers -/
def OV (H : Hp) (v : V) : Option (List Int) → Prop | none => v = .non | some l => ∃ a, v = .ref a ∧ H a = some (.tup (l.map V.int))
theorem OV.same {H H' : Hp} {v : V} {o : Option (List Int)} (h : OV H v o) (s : Same H H') : OV H' v o := by
  cases o with
  | none => exact h
  | some l => obtain ⟨a, e, z⟩ := h; exact ⟨a, e, s _ _ z⟩
theorem Vs.at_ {ns : List Int} (h : Vs ns) {k : Nat} (hk : k < 3) : atI (ns.map V.int) (k : Int) = some (.int (ns.getD k 0)) := by
  refine atI_nat ?_
  have : k < ns.length := by rw [h.1]; exact hk
  rw [List.getElem?_map, List.getElem?_eq_getElem this, List.getD_eq_getElem?_getD, List.getElem?_eq_getElem this]
  rfl
theorem Vs.cut {ns : List Int} (h : Vs ns) {k : Nat} (hk : k < 3) : cutV (ns.map V.int) none (some (k : Int)) = (ns.take k).map V.int := by
  obtain ⟨l, _⟩ := h
  obtain ⟨a, b, c, rfl⟩ : ∃ a b c, ns = [a, b, c] := by
    match ns, l with
    | [a, b, c], _ => exact ⟨a, b, c, rfl⟩
  match k, hk with
  | 0, _ => rfl
  | 1, _ => rfl
  | 2, _ => rfl
theorem Vs.bd {ns : List Int} (h : Vs ns) {k : Nat} (hk : k < 3) : 0 ≤ ns.getD k 0 ∧ ns.getD k 0 < 1000000 := by
  have : k < ns.length := by rw [h.1]; exact hk
  rw [List.getD_eq_getElem?_getD, List.getElem?_eq_getElem this]
  exact h.2 _ (List.getElem_mem this)
abbrev sRaised : Stmt := topS 18
abbrev sLRaised : Stmt := topS 29
abbrev sAfter : Stmt := topS 19
abbrev sBehind : Stmt := topS 28
theorem scRaised : FnScope ["version", "place"] ["version", "place"] (defScope sRaised) := ⟨rfl, rfl, rfl, by decide +kernel, rfl, by decide +kernel, by decide +kernel⟩
theorem scLRaised : FnScope ["version", "place"] ["version", "place"] (defScope sLRaised) := ⟨rfl, rfl, rfl, by decide +kernel, rfl, by decide +kernel, by decide +kernel⟩
theorem scAfter : FnScope ["version", "place", "found"] ["version"] (defScope sAfter) := ⟨rfl, rfl, rfl, by decide +kernel, rfl, by decide +kernel, by decide +kernel⟩
theorem scBehind : FnScope ["version", "at"] ["version"] (defScope sBehind) := ⟨rfl, rfl, rfl, by decide +kernel, rfl, by decide +kernel, by decide +kernel⟩
section
variable {P : Program} {w : World} {K : PySem.W.Frag} {mg : PySem.Str → Option Value} {base : Heap}
def spRaised : Sp := fun vs H Q _ => ∃ p ns k, vs = [.ref p, .int (k : Nat)] ∧ H p = some (.tup (ns.map V.int)) ∧ Vs ns ∧ k < 3 ∧ ∀ H' v, Same H H' → OV H' v (rsd ns k) → Q v H'
/-- version[:k] + (version[k] + 1,) + (0,) * (2 - k) -/
theorem pe_up {X : Cx} {x y : PySem.Str} {p1 p2 p3 p4 p5 p6 p7 p8 p9 p10 p11 p12 p13 p14 p15 p16 p17 p18 : Pos} {i j n1 n2 n3 k1 k2 : Nat} (hx : PE X (.Name x p1) (tVar i)) (hy : PE X (.Name y p2) (tVar j)) (hx' : PE X (.Name x p5) (tVar i)) (hy' : PE X (.Name y p6) (tVar j)) (hy'' : PE X (.Name y p15) (tVar j)) :
    PE X (.BinOp (.BinOp (.Subscript (.Name x p1) (.Slice none (some (.Name y p2)) none p3) p4) .Add (.Tuple [.BinOp (.Subscript (.Name x p5) (.Name y p6) p7) .Add (.Constant (.int 1) n1 p8) p9] k1 p10) p11) .Add
        (.BinOp (.Tuple [.Constant (.int 0) n2 p12] k2 p13) .Mult (.BinOp (.Constant (.int 2) n3 p14) .Sub (.Name y p15) p16) p17) p18)
      (fun σ H Q => ∃ p ns k, σ[i]? = some (some (.ref p)) ∧ σ[j]? = some (some (.int (k : Nat))) ∧ H p = some (.tup (ns.map V.int)) ∧ Vs ns ∧ k < 3 ∧
        ∀ H' a, Same H H' → H' a = some (.tup ((ns.take k ++ [ns.getD k 0 + 1] ++ List.replicate (2 - k) 0).map V.int)) → Q (.ref a) H') := by
  constructor
  intro pins s σ H Q I ⟨p, ns, k, h1, h2, hp, hv, hk, q⟩
  refine (pe_op op_catt (pe_op op_catt (pe_slice sl_t hx po_none (po_some hy)) (pe_tup (pa_cons (pe_op op_add (pe_ix ix_tup hx' hy' (fun _ _ => rfl)) pe_int) pa_nil))) (pe_op op_rep3 (pe_tup (pa_cons pe_int pa_nil)) (pe_op op_sub pe_int hy''))).run pins s σ H Q I ?_
  refine ⟨.ref p, h1, _, h2, (k : Nat), rfl, p, _, rfl, hp, fun H1 a1 s1 ha1 => ?_⟩
  refine ⟨.ref p, h1, .int (k : Nat), h2, p, ns.map V.int, (k : Nat), .int (ns.getD k 0), rfl, rfl, .inl (.inl (s1 _ _ hp)), hv.at_ hk, ns.getD k 0, 1, rfl, rfl, by show 1 ≤ sizeLine; decide, fun a2 n2 => ?_⟩
  rw [hv.cut hk] at ha1
  refine ⟨a1, a2, _, _, rfl, rfl, new_ne ha1 n2, upd_same, ?_, fun H3 a3 s3 ha3 => ?_⟩
  · rw [List.length_map, List.length_take]
    show _ + 1 ≤ _
    omega
  refine ⟨by show 1 ≤ sizeLine; decide, fun a4 n4 => ⟨.int (k : Nat), h2, 2, (k : Nat), rfl, rfl, a4, 2 - (k : Nat), [.int 0], rfl, rfl, upd_same, by simp, by omega, by omega, by show 1 ≤ 1000; decide, fun H5 a5 s5 ha5 => ?_⟩⟩
  have k2 : ((2 : Int) - (k : Nat)).toNat = 2 - k := by omega
  rw [k2] at ha5
  have e5 : (List.replicate (2 - k) [V.int 0]).flatten = (List.replicate (2 - k) (0 : Int)).map V.int := by
    match k, hk with
    | 0, _ => rfl
    | 1, _ => rfl
    | 2, _ => rfl
  rw [e5] at ha5
  refine ⟨a3, a5, _, _, rfl, rfl, s5 _ _ (new_ne ha3 n4), ha5, ?_, fun H6 a6 s6 ha6 => ?_⟩
  · simp only [List.length_append, List.length_map, List.length_take, List.length_replicate, List.length_cons, List.length_nil]
    omega
  · refine q H6 a6 ((((s1.trans (new_same n2)).trans s3).trans (new_same n4)).trans (s5.trans s6)) ?_
    rw [ha6]
    simp only [List.map_append]
    rfl
theorem ok_raised {f : Addr} {fd : FuncData} {k : Nat} (F : Fun K "raised" "raised" sRaised f fd) {tk : Tok} (gG : mg "GREATEST" = some (.int 999999 tk)) : FnOk P w K mg base CX0 (k + 1) f fd ["version", "place"] spRaised := by
  refine F.ok scRaised (fun vs H Q E h => ?_) (fun cdv A outer s H vs Q E hr h => ?_)
  · obtain ⟨p, ns, k, rfl, _⟩ := h
    rfl
  · obtain ⟨p, ns, k, rfl, hp, hv, hk, q⟩ := h
    refine ⟨_, pss_cons (ps_if (pt_cmpR op_eq (pe_ix ix_tup (pv 0) (pv 1) (fun _ _ => rfl)) (pe_glob (v := .int 999999) (by rfl) gG ⟨_, rfl⟩) (nomark _)) (pss_one (ps_ret pe_non)) pss_nil) (pss_one (ps_ret (pe_up (i := 0) (j := 1) (pv 0) (pv 1) (pv 0) (pv 1) (pv 1)))), ?_⟩
    refine ⟨.ref p, rfl, .int (k : Nat), rfl, p, ns.map V.int, (k : Nat), .int (ns.getD k 0), rfl, rfl, .inl (.inl hp), hv.at_ hk, rfl, _, rfl, ?_⟩
    by_cases e : ns.getD k 0 = 999999
    · rw [decide_eq_true (show V.int (ns.getD k 0) = V.int 999999 by rw [e])]
      refine q H .non (Same.refl _) ?_
      rw [show rsd ns k = none from if_pos e]
      rfl
    · rw [decide_eq_false (show ¬ V.int (ns.getD k 0) = V.int 999999 from fun z => e (by injection z))]
      refine ⟨p, ns, k, rfl, rfl, hp, hv, hk, fun H' a s' ha => q H' _ s' ?_⟩
      rw [show rsd ns k = some _ from if_neg e]
      exact ⟨a, rfl, ha⟩
theorem ok_lraised {f : Addr} {fd : FuncData} {k : Nat} (F : Fun K "_law_raised" "_law_raised" sLRaised f fd) : FnOk P w K mg base CX0 (k + 1) f fd ["version", "place"] spRaised := by
  refine F.ok scLRaised (fun vs H Q E h => ?_) (fun cdv A outer s H vs Q E hr h => ?_)
  · obtain ⟨p, ns, k, rfl, _⟩ := h
    rfl
  · obtain ⟨p, ns, k, rfl, hp, hv, hk, q⟩ := h
    refine ⟨_, pss_cons (ps_if (pt_cmpR op_eq (pe_ix ix_tup (pv 0) (pv 1) (fun _ _ => rfl)) pe_int (nomark _)) (pss_one (ps_ret pe_non)) pss_nil) (pss_one (ps_ret (pe_up (i := 0) (j := 1) (pv 0) (pv 1) (pv 0) (pv 1) (pv 1)))), ?_⟩
    refine ⟨.ref p, rfl, .int (k : Nat), rfl, p, ns.map V.int, (k : Nat), .int (ns.getD k 0), rfl, rfl, .inl (.inl hp), hv.at_ hk, rfl, _, rfl, ?_⟩
    by_cases e : ns.getD k 0 = 999999
    · rw [decide_eq_true (show V.int (ns.getD k 0) = V.int 999999 by rw [e])]
      refine q H .non (Same.refl _) ?_
      rw [show rsd ns k = none from if_pos e]
      rfl
    · rw [decide_eq_false (show ¬ V.int (ns.getD k 0) = V.int 999999 from fun z => e (by injection z))]
      refine ⟨p, ns, k, rfl, rfl, hp, hv, hk, fun H' a s' ha => q H' _ s' ?_⟩
      rw [show rsd ns k = some _ from if_neg e]
      exact ⟨a, rfl, ha⟩
end
end V1
/-! The next version. -/
namespace V1
open PySem PySem.Spec PyProof.Rows L2
theorem aft_some {ns l : List Int} : ∀ {i : Nat}, i < 3 → (∀ j, j < i → rsd ns (2 - j) = none) → rsd ns (2 - i) = some l → aft ns = some l
  | 0, _, _, h => by unfold aft; rw [show rsd ns 2 = some l from h]
  | 1, _, k, h => by unfold aft; rw [show rsd ns 2 = none from k 0 (by decide), show rsd ns 1 = some l from h]
  | 2, _, k, h => by unfold aft; rw [show rsd ns 2 = none from k 0 (by decide), show rsd ns 1 = none from k 1 (by decide)]; exact h
  | n + 3, h, _, _ => absurd h (by omega)
theorem aft_none {ns : List Int} (k : ∀ j, j < 3 → rsd ns (2 - j) = none) : aft ns = none := by
  unfold aft
  rw [show rsd ns 2 = none from k 0 (by decide), show rsd ns 1 = none from k 1 (by decide)]
  exact k 2 (by decide)
theorem at_210 {x : V} : ∀ {i : Nat}, ([V.int 2, .int 1, .int 0] : List V)[i]? = some x → i < 3 ∧ x = .int ((2 - i : Nat) : Int)
  | 0, h => by cases h; exact ⟨by decide, rfl⟩
  | 1, h => by cases h; exact ⟨by decide, rfl⟩
  | 2, h => by cases h; exact ⟨by decide, rfl⟩
  | n + 3, h => by cases h
section
variable {P : Program} {w : World} {K : PySem.W.Frag} {mg : PySem.Str → Option Value} {base : Heap}
def spAfter : Sp := fun vs H Q _ => ∃ p ns, vs = [.ref p] ∧ H p = some (.tup (ns.map V.int)) ∧ Vs ns ∧ ∀ H' v, Same H H' → OV H' v (aft ns) → Q v H'
theorem ok_after {f fR : Addr} {fd fdR : FuncData} {k : Nat} (F : Fun K "after" "after" sAfter f fd) (FR : Fun K "raised" "raised" sRaised fR fdR) (bR : Binds K fdR ["version", "place"] []) (gR : mg "raised" = some (.ref fR)) {tk : Tok} (gG : mg "GREATEST" = some (.int 999999 tk)) : FnOk P w K mg base CX0 (k + 2) f fd ["version"] spAfter := by
  have GR : FnOk P w K mg base CX0 (k + 1) fR fdR ["version", "place"] spRaised := ok_raised FR gG
  refine F.ok scAfter (fun vs H Q E h => ?_) (fun cdv A outer s H vs Q E hr h => ?_)
  · obtain ⟨p, ns, rfl, _⟩ := h
    rfl
  · obtain ⟨p, ns, rfl, hp, hv, q⟩ := h
    refine ⟨_, pss_cons (ps_for PassesOwn.never rfl (pi_tup (pe_tup (pa_cons pe_int (pa_cons pe_int (pa_cons pe_int pa_nil))))) (pg_name (i := 1) scAfter.nd rfl (Or.inl rfl))
      (pss_cons (ps_set (i := 2) scAfter.nd rfl (.inl rfl) (pe_call GR hr (by rfl) gR FR.kp bR .nil pass0 (pa_cons (pv 0) (pa_cons (pv 1) pa_nil))))
      (pss_one (ps_if (pt_cmpR op_notN (pv 2) pe_non (nomark _)) (pss_one (ps_ret (pv 2))) pss_nil)))) (pss_one (ps_ret pe_non)), ?_⟩
    refine ⟨by show 3 ≤ sizeLine; decide, fun t nt => ⟨t, rfl, ⟨_, .inl (.inl upd_same)⟩, ?_⟩⟩
    refine for_it (walk_tup (xs := [.int 2, .int 1, .int 0])) (fun i σ' H' => (∃ y1 y2, σ' = [some (.ref p), y1, y2]) ∧ Same H H' ∧ H' t = some (.tup [.int 2, .int 1, .int 0]) ∧ ∀ j, j < i → rsd ns (2 - j) = none) ⟨⟨none, none, rfl⟩, new_same nt, upd_same, fun j hj => absurd hj (by omega)⟩ (fun i σ' H' _ hP => .inl (.inl hP.2.2.1)) ?_ (fun σ' H' hP => ?_)
    · rintro i x σ' H1 H2 hi ⟨⟨y1, y2, rfl⟩, s1, ht, hk⟩ ⟨rfl, hx⟩
      obtain ⟨hi3, rfl⟩ := at_210 hx
      refine ⟨.ref p, rfl, .int ((2 - i : Nat) : Int), rfl, p, ns, 2 - i, rfl, s1 _ _ hp, hv, by omega, fun H3 v s3 hO => ?_⟩
      refine ⟨v, rfl, rfl, _, rfl, ?_⟩
      cases e : rsd ns (2 - i) with
      | none =>
        rw [e] at hO
        obtain rfl : v = .non := hO
        rw [decide_eq_true (show V.non = V.non from rfl)]
        refine ⟨⟨_, _, rfl⟩, s1.trans s3, s3 _ _ ht, fun j hj => ?_⟩
        by_cases z : j = i
        · rw [z]; exact e
        · exact hk j (by omega)
      | some l =>
        rw [e] at hO
        obtain ⟨a, rfl, ha⟩ := hO
        rw [decide_eq_false (show ¬ V.ref a = V.non from fun z => nomatch z)]
        refine ⟨.ref a, rfl, q H3 _ (s1.trans s3) ?_⟩
        rw [aft_some hi3 hk e]
        exact ⟨a, rfl, ha⟩
    · refine q H' .non hP.2.1 ?_
      rw [aft_none hP.2.2.2]
      rfl
theorem ok_behind {f : Addr} {fd : FuncData} {k : Nat} (F : Fun K "_law_behind_version" "_law_behind_version" sBehind f fd) : FnOk P w K mg base CX0 (k + 1) f fd ["version"] spAfter := by
  refine F.ok scBehind (fun vs H Q E h => ?_) (fun cdv A outer s H vs Q E hr h => ?_)
  · obtain ⟨p, ns, rfl, _⟩ := h
    rfl
  · obtain ⟨p, ns, rfl, hp, hv, q⟩ := h
    refine ⟨_, pss_cons (ps_for PassesOwn.never rfl (pi_tup (pe_tup (pa_cons pe_int (pa_cons pe_int (pa_cons pe_int pa_nil))))) (pg_name (i := 1) scBehind.nd rfl (Or.inl rfl))
      (pss_one (ps_if (pt_cmpR op_lt (pe_ix ix_tup (pv 0) (pv 1) (fun _ _ => rfl)) pe_int (nomark _)) (pss_one (ps_ret (pe_up (i := 0) (j := 1) (pv 0) (pv 1) (pv 0) (pv 1) (pv 1)))) pss_nil))) (pss_one (ps_ret pe_non)), ?_⟩
    refine ⟨by show 3 ≤ sizeLine; decide, fun t nt => ⟨t, rfl, ⟨_, .inl (.inl upd_same)⟩, ?_⟩⟩
    refine for_it (walk_tup (xs := [.int 2, .int 1, .int 0])) (fun i σ' H' => (∃ y1, σ' = [some (.ref p), y1]) ∧ Same H H' ∧ H' t = some (.tup [.int 2, .int 1, .int 0]) ∧ ∀ j, j < i → rsd ns (2 - j) = none) ⟨⟨none, rfl⟩, new_same nt, upd_same, fun j hj => absurd hj (by omega)⟩ (fun i σ' H' _ hP => .inl (.inl hP.2.2.1)) ?_ (fun σ' H' hP => ?_)
    · rintro i x σ' H1 H2 hi ⟨⟨y1, rfl⟩, s1, ht, hk⟩ ⟨rfl, hx⟩
      obtain ⟨hi3, rfl⟩ := at_210 hx
      have hki : 2 - i < 3 := by omega
      obtain ⟨b0, b1⟩ := hv.bd hki
      refine ⟨.ref p, rfl, .int ((2 - i : Nat) : Int), rfl, p, ns.map V.int, ((2 - i : Nat) : Int), .int (ns.getD (2 - i) 0), rfl, rfl, .inl (.inl (s1 _ _ hp)), hv.at_ hki, ns.getD (2 - i) 0, 999999, rfl, rfl, _, rfl, ?_⟩
      by_cases e : ns.getD (2 - i) 0 < 999999
      · rw [decide_eq_true e]
        refine ⟨p, ns, 2 - i, rfl, rfl, s1 _ _ hp, hv, hki, fun H3 a s3 ha => q H3 _ (s1.trans s3) ?_⟩
        rw [aft_some hi3 hk (show rsd ns (2 - i) = some _ from if_neg (by omega))]
        exact ⟨a, rfl, ha⟩
      · rw [decide_eq_false e]
        refine ⟨⟨_, rfl⟩, s1, ht, fun j hj => ?_⟩
        by_cases z : j = i
        · rw [z]; exact if_pos (by omega)
        · exact hk j (by omega)
    · refine q H' .non hP.2.1 ?_
      rw [aft_none hP.2.2.2]
      rfl
end
end V1
/-! Texts of versions: what they show. -/
namespace V1
open PySem PySem.Spec PyProof.Rows L2 TL
def Dot : PySem.Str := "."
def Fg : PySem.Str := "0123456789"
theorem fg_mem {c : Nat} (h : c ∈ Fg.cps.toList) : 48 ≤ c ∧ c ≤ 57 := by
  have e : Fg.cps.toList = [48, 49, 50, 51, 52, 53, 54, 55, 56, 57] := by decide +kernel
  rw [e] at h
  simp only [List.mem_cons, List.not_mem_nil, or_false] at h
  omega
theorem mem_fg {c : Nat} (h : 48 ≤ c ∧ c ≤ 57) : c ∈ Fg.cps.toList := by
  have e : Fg.cps.toList = [48, 49, 50, 51, 52, 53, 54, 55, 56, 57] := by decide +kernel
  rw [e]
  simp only [List.mem_cons, List.not_mem_nil, or_false]
  omega
/-- the first sign is no nought -/
def headOk (w : PySem.Str) : Bool := match w.cps.toList with | c :: _ => !decide (c = 48) | [] => true
/-- a word shows a number -/
def shownB (w : PySem.Str) : Bool := decide (1 ≤ w.length) && decide (w.length ≤ 6) && (allIn Fg w.cps.toList && (decide (V.str w = V.str "0") || headOk w))
def val (w : PySem.Str) : Int := ((intText? w).getD 0)
def readV (x : PySem.Str) : Option (List Int) := if (Txt.split x Dot).length = 3 ∧ (Txt.split x Dot).all shownB = true then some ((Txt.split x Dot).map val) else none
theorem digits_val {w : PySem.Str} (h1 : 1 ≤ w.length) (h6 : w.length ≤ 6) (ha : allIn Fg w.cps.toList = true) : ∃ n : Nat, intText? w = some (n : Int) ∧ n < 1000000 := by
  have hd : NumText.AllDigits w.cps.toList := fun c hc => fg_mem (of_decide_eq_true (List.all_eq_true.mp ha c hc))
  have hne : w.cps.toList ≠ [] := fun e => by
    have : w.length = w.cps.toList.length := by simp [PySem.Str.length]
    rw [this, e] at h1
    simp at h1
  refine ⟨_, intText_digits hd hne (by omega), ?_⟩
  have hl : w.cps.toList.length ≤ 6 := by simpa [PySem.Str.length] using h6
  have fold : ∀ (l : List Nat) (a : Nat), NumText.AllDigits l → l.foldl (fun acc c => acc * 10 + (c - 48)) a < (a + 1) * 10 ^ l.length := by
    intro l
    induction l with
    | nil => intro a _; simp
    | cons c l ih =>
      intro a h
      have hc := h.head
      have z := ih (a * 10 + (c - 48)) h.tail
      rw [List.foldl_cons, List.length_cons, Nat.pow_succ]
      have e1 : a * 10 + (c - 48) + 1 ≤ (a + 1) * 10 := by omega
      have e2 : (a * 10 + (c - 48) + 1) * 10 ^ l.length ≤ (a + 1) * 10 * 10 ^ l.length := Nat.mul_le_mul_right _ e1
      have e3 : (a + 1) * 10 * 10 ^ l.length = (a + 1) * (10 ^ l.length * 10) := by rw [Nat.mul_assoc, Nat.mul_comm 10]
      omega
  have z := fold w.cps.toList 0 hd
  have p6 : (10 : Nat) ^ w.cps.toList.length ≤ 10 ^ 6 := Nat.pow_le_pow_right (by decide) hl
  unfold NumText.digitsVal
  omega
theorem shown_val {w : PySem.Str} (h : shownB w = true) : ∃ n : Nat, intText? w = some (n : Int) ∧ n < 1000000 ∧ w.length ≤ 6 := by
  unfold shownB at h
  simp only [Bool.and_eq_true, decide_eq_true_eq] at h
  obtain ⟨n, h1, h2⟩ := digits_val h.1.1 h.1.2 h.2.1
  exact ⟨n, h1, h2, h.1.2⟩
/-- pieces are not longer -/
theorem spl_len (S : List Nat) : ∀ (l : List Nat) (k : Nat) (acc : List Nat), ∀ p ∈ spl S k acc l, p.length ≤ acc.length + l.length := by
  intro l
  induction l with
  | nil =>
    intro k acc p hp
    rw [spl_nil, List.mem_singleton] at hp
    rw [hp]
    exact Nat.le_add_right _ _
  | cons c r ih =>
    intro k acc p hp
    rw [List.length_cons]
    cases k with
    | zero =>
      by_cases h : pre S (c :: r) = true
      · rw [spl_hit h] at hp
        rcases List.mem_cons.mp hp with e | e
        · rw [e]; omega
        · have := ih _ _ p e
          simp only [List.length_nil] at this
          omega
      · rw [spl_miss (by simpa using h)] at hp
        have := ih _ _ p hp
        rw [List.length_append, List.length_singleton] at this
        omega
    | succ k =>
      have := ih k acc p hp
      omega
theorem tl_dot : tl Dot = [46] := by decide +kernel
theorem split_eq (x : PySem.Str) : (Txt.split x Dot).map tl = spl [46] 0 [] (tl x) := by
  rw [split_spl x Dot (by rw [tl_dot]; simp) (kind_ok (by decide +kernel)), tl_dot]
theorem split_len {x w : PySem.Str} (h : w ∈ Txt.split x Dot) : w.length ≤ x.length := by
  have h1 : tl w ∈ (Txt.split x Dot).map tl := List.mem_map_of_mem h
  rw [split_eq] at h1
  have := spl_len _ _ _ _ _ h1
  rw [len_tl, len_tl]
  simpa using this
theorem spl_many (S : List Nat) : ∀ (l : List Nat) (k : Nat) (acc : List Nat), (spl S k acc l).length ≤ l.length + 1 := by
  intro l
  induction l with
  | nil => intro k acc; rw [spl_nil]; exact Nat.le_refl _
  | cons c r ih =>
    intro k acc
    rw [List.length_cons]
    cases k with
    | zero =>
      by_cases h : pre S (c :: r) = true
      · rw [spl_hit h, List.length_cons]
        have := ih (S.length - 1) []
        omega
      · rw [spl_miss (by simpa using h)]
        have := ih 0 (acc ++ [c])
        omega
    | succ k =>
      have := ih k acc
      show (spl S k acc r).length ≤ _
      omega
theorem split_many (x : PySem.Str) : (Txt.split x Dot).length ≤ x.length + 1 := by
  have h := congrArg List.length (split_eq x)
  rw [List.length_map] at h
  rw [h, len_tl]
  exact spl_many _ _ _ _
/-- a version as it is shown -/
def num (n : Int) : PySem.Str := PySem.Str.ofString (toString n)
def said (ns : List Int) : PySem.Str := Txt.join Dot (ns.map num)
theorem num_ok {n : Int} (h : 0 ≤ n ∧ n < 1000000) : shownB (num n) = true ∧ val (num n) = n ∧ (num n).length ≤ 6 ∧ (46 : Nat) ∉ tl (num n) := by
  obtain ⟨m, rfl⟩ : ∃ m : Nat, n = (m : Int) := ⟨n.toNat, by omega⟩
  have hm : m < 10 ^ 6 := by omega
  have et : tl (num (m : Int)) = numL m := tl_num m
  have hl : (num (m : Int)).length ≤ 6 := by rw [len_tl, et]; exact numL_len (by decide) hm
  have h1 : 1 ≤ (num (m : Int)).length := by
    rw [len_tl, et]
    exact List.length_pos_iff.mpr (numL_ne m)
  have ha : allIn Fg (num (m : Int)).cps.toList = true := List.all_eq_true.mpr fun c hc => decide_eq_true (mem_fg (numL_digits m c (by rw [← et]; exact hc)))
  have hi : intText? (num (m : Int)) = some (m : Int) := int_num (by rw [← et, ← len_tl]; omega)
  refine ⟨?_, ?_, hl, by rw [et]; exact numL_free (.inl (by decide))⟩
  · unfold shownB
    rw [decide_eq_true h1, decide_eq_true hl, ha]
    by_cases z : m = 0
    · subst z
      rfl
    · have : headOk (num (m : Int)) = true := by
        unfold headOk
        have et' : (num (m : Int)).cps.toList = numL m := et
        rw [et']
        have key : ∀ m : Nat, m ≠ 0 → (numL m).head? ≠ some 48 := by
          intro m
          induction m using Nat.strongRecOn with
          | _ m ih =>
            intro hm
            by_cases h : m < 10
            · rw [numL_lt h]
              simp
              omega
            · rw [numL_step (by omega)]
              have := ih (m / 10) (by omega) (by omega)
              have ne := numL_ne (m / 10)
              cases e : numL (m / 10) with
              | nil => exact absurd e ne
              | cons c r => rw [e] at this; simpa using this
        have k := key m z
        cases e : numL m with
        | nil => rfl
        | cons c r =>
          rw [e] at k
          simp only [List.head?_cons, ne_eq, Option.some.injEq] at k
          simp [k]
      rw [this]
      simp
  · unfold val
    rw [hi]
    rfl
theorem read_said {ns : List Int} (h : Vs ns) : readV (said ns) = some ns := by
  have hp : ∀ p ∈ ns.map num, (46 : Nat) ∉ tl p := fun p hp => by
    obtain ⟨n, hn, rfl⟩ := List.mem_map.mp hp
    exact (num_ok (h.2 n hn)).2.2.2
  have hne : ns.map num ≠ [] := fun e => by
    have := congrArg List.length e
    rw [List.length_map, h.1] at this
    simp at this
  have e : Txt.split (said ns) Dot = ns.map num := split_join tl_dot (by decide +kernel) hne hp
  unfold readV
  rw [e, if_pos ⟨by rw [List.length_map]; exact h.1, List.all_eq_true.mpr fun p hp => by
    obtain ⟨n, hn, rfl⟩ := List.mem_map.mp hp
    exact (num_ok (h.2 n hn)).1⟩, List.map_map]
  congr 1
  have : ∀ l : List Int, (∀ n ∈ l, 0 ≤ n ∧ n < 1000000) → l.map (val ∘ num) = l := by
    intro l
    induction l with
    | nil => intro _; rfl
    | cons n l ih =>
      intro hl
      rw [List.map_cons, ih fun m hm => hl m (List.mem_cons_of_mem _ hm)]
      show val (num n) :: l = _
      rw [(num_ok (hl n List.mem_cons_self)).2.1]
  exact this ns h.2
theorem read_vs {x : PySem.Str} {ns : List Int} (h : readV x = some ns) : Vs ns := by
  unfold readV at h
  split at h
  · rename_i z
    cases h
    refine ⟨by rw [List.length_map]; exact z.1, fun n hn => ?_⟩
    obtain ⟨w, hw, rfl⟩ := List.mem_map.mp hn
    obtain ⟨m, e, hm, _⟩ := shown_val (List.all_eq_true.mp z.2 w hw)
    unfold val
    rw [e]
    show 0 ≤ (m : Int) ∧ (m : Int) < 1000000
    omega
  · cases h
end V1
/-! Texts of versions: shown, read. -/
namespace V1
open PySem PySem.Spec PyProof.Rows L2 TL
abbrev sShow : Stmt := topS 14
abbrev sSaid : Stmt := topS 27
abbrev sShown : Stmt := topS 15
abbrev sTold : Stmt := topS 16
abbrev sLRead : Stmt := topS 38
theorem scShow : FnScope ["version", "number"] ["version"] (defScope sShow) := ⟨rfl, rfl, rfl, by decide +kernel, rfl, by decide +kernel, by decide +kernel⟩
theorem scSaid : FnScope ["version", "part"] ["version"] (defScope sSaid) := ⟨rfl, rfl, rfl, by decide +kernel, rfl, by decide +kernel, by decide +kernel⟩
theorem scShown : FnScope ["word", "sign"] ["word"] (defScope sShown) := ⟨rfl, rfl, rfl, by decide +kernel, rfl, by decide +kernel, by decide +kernel⟩
theorem scTold : FnScope ["text", "words", "word"] ["text"] (defScope sTold) := ⟨rfl, rfl, rfl, by decide +kernel, rfl, by decide +kernel, by decide +kernel⟩
theorem scLRead : FnScope ["text", "parts", "found", "part", "sign"] ["text"] (defScope sLRead) := ⟨rfl, rfl, rfl, by decide +kernel, rfl, by decide +kernel, by decide +kernel⟩
section
variable {P : Program} {w : World} {K : PySem.W.Frag} {mg : PySem.Str → Option Value} {base : Heap}
def spSaid : Sp := fun vs H Q _ => ∃ p ns, vs = [.ref p] ∧ H p = some (.tup (ns.map V.int)) ∧ Vs ns ∧ ∀ H', Same H H' → Q (.str (said ns)) H'
theorem join_fit {ns : List Int} (h : Vs ns) : ((ns.map num).map (·.length)).sum + (ns.map num).length * Dot.length ≤ 16777216 := by
  obtain ⟨l, k⟩ := h
  obtain ⟨a, b, c, rfl⟩ : ∃ a b c, ns = [a, b, c] := by
    match ns, l with
    | [a, b, c], _ => exact ⟨a, b, c, rfl⟩
  have h1 := (num_ok (k a (by simp))).2.2.1
  have h2 := (num_ok (k b (by simp))).2.2.1
  have h3 := (num_ok (k c (by simp))).2.2.1
  have hd : Dot.length = 1 := by decide +kernel
  simp only [List.map_cons, List.map_nil, List.sum_cons, List.sum_nil, List.length_cons, List.length_nil, hd]
  omega
theorem int_log {n : Int} (h : 0 ≤ n ∧ n < 1000000) : n.natAbs.log2 < 1920 := by
  by_cases h0 : n.natAbs = 0
  · rw [h0]; decide
  · exact (Nat.log2_lt h0).mpr (Nat.lt_trans (show n.natAbs < 10 ^ 6 by omega) (by decide +kernel))
theorem ok_show {f : Addr} {fd : FuncData} {k : Nat} (F : Fun K "show_version" "show_version" sShow f fd) (mT : mg "str" = none) : FnOk P w K mg base CX0 (k + 1) f fd ["version"] spSaid := by
  refine F.ok scShow (fun vs H Q E h => ?_) (fun cdv A outer s H vs Q E hr h => ?_)
  · obtain ⟨p, ns, rfl, _⟩ := h
    rfl
  · obtain ⟨p, ns, rfl, hp, hv, q⟩ := h
    refine ⟨_, pss_one (ps_ret (pe_join pe_str (pe_lc (own := [("number", 1)]) (g := gName 1) rfl scShow.nd (pi_tup (pv 0)) (blkOk_by (N := ["version", "number"]) (sc := defScope sShow) (by decide +kernel))
        (fun _ _ _ _ _ => pg_name (i := 1) scShow.nd rfl (Or.inl rfl)) (fun _ _ _ _ _ => pts_nil) (fun _ _ _ _ _ => pe_callTy call_str_int (by rfl) mT (by decide +kernel) (pa_cons (pv 1) pa_nil))))), ?_⟩
    refine ⟨⟨_, rfl⟩, .ref p, rfl, p, rfl, ⟨_, .inl (.inl hp)⟩, fun Dl nD => ?_⟩
    refine lc_it (walk_tup (xs := ns.map V.int)) (fun j Hc => Hc Dl = some (.lst (((ns.take j).map num).map V.str)) ∧ Same H Hc) ⟨by rw [List.take_zero]; exact upd_same, new_same nD⟩ (fun j Hc _ hP => .inl (.inl (hP.2 _ _ hp))) ?_ (fun Hc hP => ?_)
    · rintro j x Hc H' hj ⟨c1, c2⟩ ⟨rfl, hx⟩
      rw [List.getElem?_map] at hx
      obtain ⟨n, hn, rfl⟩ := Option.map_eq_some_iff.mp hx
      refine ⟨rfl, .int n, rfl, n, rfl, int_log (hv.2 n (List.mem_of_getElem? hn)), _, c1, by rw [List.length_map, List.length_map, List.length_take, sizeLine_eq, hv.1]; omega, ?_, fun y o h => ?_⟩
      · rw [upd_same, List.take_add_one, hn, List.map_append, List.map_append]
        rfl
      · rw [upd_ne (ne_of_none h nD)]
        exact c2 y o h
    · obtain ⟨c1, c2⟩ := hP
      rw [List.length_map, List.take_length] at c1
      exact ⟨Dot, Dl, ns.map num, rfl, rfl, .inl (.inl (.inl c1)), join_fit hv, q Hc c2⟩
theorem ok_said {f : Addr} {fd : FuncData} {k : Nat} (F : Fun K "_law_said" "_law_said" sSaid f fd) (mT : mg "str" = none) : FnOk P w K mg base CX0 (k + 1) f fd ["version"] spSaid := by
  refine F.ok scSaid (fun vs H Q E h => ?_) (fun cdv A outer s H vs Q E hr h => ?_)
  · obtain ⟨p, ns, rfl, _⟩ := h
    rfl
  · obtain ⟨p, ns, rfl, hp, hv, q⟩ := h
    refine ⟨_, pss_one (ps_ret (pe_join pe_str (pe_lc (own := [("part", 1)]) (g := gName 1) rfl scSaid.nd (pi_tup (pv 0)) (blkOk_by (N := ["version", "part"]) (sc := defScope sSaid) (by decide +kernel))
        (fun _ _ _ _ _ => pg_name (i := 1) scSaid.nd rfl (Or.inl rfl)) (fun _ _ _ _ _ => pts_nil) (fun _ _ _ _ _ => pe_callTy call_str_int (by rfl) mT (by decide +kernel) (pa_cons (pv 1) pa_nil))))), ?_⟩
    refine ⟨⟨_, rfl⟩, .ref p, rfl, p, rfl, ⟨_, .inl (.inl hp)⟩, fun Dl nD => ?_⟩
    refine lc_it (walk_tup (xs := ns.map V.int)) (fun j Hc => Hc Dl = some (.lst (((ns.take j).map num).map V.str)) ∧ Same H Hc) ⟨by rw [List.take_zero]; exact upd_same, new_same nD⟩ (fun j Hc _ hP => .inl (.inl (hP.2 _ _ hp))) ?_ (fun Hc hP => ?_)
    · rintro j x Hc H' hj ⟨c1, c2⟩ ⟨rfl, hx⟩
      rw [List.getElem?_map] at hx
      obtain ⟨n, hn, rfl⟩ := Option.map_eq_some_iff.mp hx
      refine ⟨rfl, .int n, rfl, n, rfl, int_log (hv.2 n (List.mem_of_getElem? hn)), _, c1, by rw [List.length_map, List.length_map, List.length_take, sizeLine_eq, hv.1]; omega, ?_, fun y o h => ?_⟩
      · rw [upd_same, List.take_add_one, hn, List.map_append, List.map_append]
        rfl
      · rw [upd_ne (ne_of_none h nD)]
        exact c2 y o h
    · obtain ⟨c1, c2⟩ := hP
      rw [List.length_map, List.take_length] at c1
      exact ⟨Dot, Dl, ns.map num, rfl, rfl, .inl (.inl (.inl c1)), join_fit hv, q Hc c2⟩
def spShown : Sp := fun vs H Q _ => ∃ x : PySem.Str, vs = [.str x] ∧ x.length ≤ 100000 ∧ ∀ H', Same H H' → Q (.bl (shownB x)) H'
theorem ok_shown {f : Addr} {fd : FuncData} {k : Nat} (F : Fun K "is_shown_number" "is_shown_number" sShown f fd) {t1 t2 : Tok} (gM : mg "MOST_FIGURES" = some (.int 6 t1)) (gF : mg "FIGURES" = some (.str Fg t2)) (mL : mg "len" = none) (mA : mg "all" = none) : FnOk P w K mg base CX0 (k + 1) f fd ["word"] spShown := by
  refine F.ok scShown (fun vs H Q E h => ?_) (fun cdv A outer s H vs Q E hr h => ?_)
  · obtain ⟨x, rfl, _⟩ := h
    rfl
  · obtain ⟨x, rfl, hx, q⟩ := h
    refine ⟨_, pss_cons (ps_if (pt_not (pt_chain op_le op_le pe_int (pe_callB call_len_str (by rfl) mL PySem.boot_len (pa_cons (pv 0) pa_nil)) (pe_glob (v := .int 6) (by rfl) gM ⟨_, rfl⟩))) (pss_one (ps_ret pe_bl)) pss_nil)
      (pss_one (ps_ret (pe_and (pe_callB (cr_all rfl) (by rfl) mA (by decide +kernel) (pa_cons (pe_lc (own := [("sign", 1)]) (g := gName 1) rfl scShown.nd (pi_str (pv 0)) (blkOk_by (N := ["word", "sign"]) (sc := defScope sShown) (by decide +kernel))
          (fun _ _ _ _ _ => pg_name (i := 1) scShown.nd rfl (Or.inl rfl)) (fun _ _ _ _ _ => pts_nil)
          (fun _ _ _ _ _ => pe_cmpR op_in_sign (pv 1) (pe_glob (v := .str Fg) (by rfl) gF ⟨_, rfl⟩) (by rfl))) pa_nil))
        (pe_one (pe_or (pe_cmpR op_eq (pv 0) pe_str (nomark _)) (pe_one (pe_cmpR op_ne (pe_ix ix_str (pv 0) pe_int (fun _ _ => rfl)) pe_str (nomark _)))))))), ?_⟩
    have hz : x.length ≤ sizeLine := by rw [sizeLine_eq]; omega
    refine ⟨.str x, rfl, x, rfl, hz, 1, (x.length : Nat), rfl, rfl, _, rfl, ite2 (fun e1 => ?_) (fun e1 => ?_)⟩
    · have h1 : 1 ≤ x.length := by have := of_decide_eq_true e1; omega
      refine ⟨(x.length : Nat), 6, rfl, rfl, _, rfl, ?_⟩
      by_cases h2 : x.length ≤ 6
      · rw [decide_eq_true (show ((x.length : Nat) : Int) ≤ 6 by omega)]
        have qq : ∀ H', Same H H' → Q (.bl (allIn Fg x.cps.toList && (decide (V.str x = V.str "0") || headOk x))) H' := fun H' s => by
          have z := q H' s
          unfold shownB at z
          rw [decide_eq_true h1, decide_eq_true h2] at z
          exact z
        refine ⟨.str x, rfl, x, rfl, fun Dl nD => ?_⟩
        refine lc_it (walk_str (z := x)) (fun j Hc => Hc Dl = some (.lst ((x.cps.toList.take j).map fun c => .bl (decide (c ∈ Fg.cps.toList)))) ∧ Same H Hc) ⟨by rw [List.take_zero]; exact upd_same, new_same nD⟩ (fun j Hc _ hP => trivial) ?_ (fun Hc hP => ?_)
        · rintro j v Hc H' hj ⟨c1, c2⟩ ⟨rfl, c, hx, rfl⟩
          have hx' : x.cps.toList[j]? = some c := by rw [Array.getElem?_toList]; exact hx
          refine ⟨rfl, .str ⟨#[c]⟩, rfl, c, Fg, rfl, rfl, _, c1, by rw [List.length_map, List.length_take, sizeLine_eq]; have : x.cps.size = x.length := rfl; omega, ?_, fun y o h => ?_⟩
          · rw [upd_same, List.take_add_one, hx', List.map_append]
            rfl
          · rw [upd_ne (ne_of_none h nD)]
            exact c2 y o h
        · obtain ⟨c1, c2⟩ := hP
          have e9 : x.cps.toList.take x.cps.size = x.cps.toList := List.take_of_length_le (by simp)
          rw [e9] at c1
          refine ⟨Dl, x.cps.toList.map fun c => decide (c ∈ Fg.cps.toList), rfl, .inl (.inl (by rw [c1, List.map_map]; rfl)), ?_⟩
          rw [List.all_map]
          have ea : (x.cps.toList.all (id ∘ fun c => decide (c ∈ Fg.cps.toList))) = allIn Fg x.cps.toList := rfl
          rw [ea]
          refine ⟨_, rfl, ite2 (fun e3 => ?_) (fun e3 => ?_)⟩
          · rw [e3] at qq
            refine ⟨.str x, rfl, rfl, _, rfl, ite2 (fun e4 => ?_) (fun e4 => ?_)⟩
            · rw [e4] at qq
              exact qq Hc c2
            · have e4' : decide (V.str x = V.str "0") = false := by simpa using e4
              rw [e4'] at qq
              have hl : 1 ≤ x.cps.toList.length := h1
              cases e5 : x.cps.toList with
              | nil => rw [e5] at hl; simp at hl
              | cons c l =>
                have eh : headOk x = !decide (c = 48) := by unfold headOk; rw [e5]
                rw [eh] at qq
                refine ⟨.str x, rfl, x, 0, c, rfl, rfl, hz, by rw [e5]; exact atI_nat (j := 0) rfl, rfl, ?_⟩
                have e6 : decide (V.str ⟨#[c]⟩ = V.str "0") = decide (c = 48) := by
                  refine decide_eq_decide.mpr ⟨fun z => ?_, fun z => ?_⟩
                  · injection z with z
                    have z2 := congrArg (fun y : PySem.Str => y.cps.toList) z
                    have e0 : ("0" : PySem.Str).cps.toList = [48] := by decide +kernel
                    simp only [e0] at z2
                    simpa using z2
                  · subst z
                    rfl
                rw [e6]
                exact qq Hc c2
          · have e3' : allIn Fg x.cps.toList = false := by simpa using e3
            rw [e3'] at qq
            exact qq Hc c2
      · rw [decide_eq_false (show ¬ ((x.length : Nat) : Int) ≤ 6 by omega)]
        have z := q H (Same.refl _)
        have e0 : shownB x = false := by
          unfold shownB
          rw [decide_eq_false h2, Bool.and_false]
          rfl
        rw [e0] at z
        exact z
    · have h1 : ¬ 1 ≤ x.length := fun z => e1 (decide_eq_true (by omega))
      have z := q H (Same.refl _)
      have e0 : shownB x = false := by
        unfold shownB
        rw [decide_eq_false h1]
        rfl
      rw [e0] at z
      exact ⟨_, rfl, z⟩
end
end V1
/-! The version that a text shows, read twice. -/
namespace V1
open PySem PySem.Spec PyProof.Rows L2 TL
section
variable {P : Program} {w : World} {K : PySem.W.Frag} {mg : PySem.Str → Option Value} {base : Heap}
def spTold : Sp := fun vs H Q _ => ∃ x : PySem.Str, vs = [.str x] ∧ x.length ≤ 90000 ∧ ∀ H' v, Same H H' → OV H' v (readV x) → Q v H'
theorem val_of {w : PySem.Str} (h : shownB w = true) : intText? w = some (val w) := by
  obtain ⟨n, e, _⟩ := shown_val h
  unfold val
  rw [e]
  rfl
theorem ok_told {f fS : Addr} {fd fdS : FuncData} {k : Nat} (F : Fun K "version_told" "version_told" sTold f fd) (FS : Fun K "is_shown_number" "is_shown_number" sShown fS fdS) (bS : Binds K fdS ["word"] []) (gS : mg "is_shown_number" = some (.ref fS))
    {t1 t2 : Tok} (gM : mg "MOST_FIGURES" = some (.int 6 t1)) (gF : mg "FIGURES" = some (.str Fg t2)) (mL : mg "len" = none) (mA : mg "all" = none) (mI : mg "int" = none) : FnOk P w K mg base CX0 (k + 2) f fd ["text"] spTold := by
  have GS : FnOk P w K mg base CX0 (k + 1) fS fdS ["word"] spShown := ok_shown FS gM gF mL mA
  refine F.ok scTold (fun vs H Q E h => ?_) (fun cdv A outer s H vs Q E hr h => ?_)
  · obtain ⟨x, rfl, _⟩ := h
    rfl
  · obtain ⟨x, rfl, hx, q⟩ := h
    refine ⟨_, pss_cons (ps_set (i := 1) scTold.nd rfl (.inl rfl) (pe_split (pv 0) pe_str))
      (pss_cons (ps_if (PW.pt (pw_or (pt_cmpR op_ne (pe_callB call_len_seq (by rfl) mL PySem.boot_len (pa_cons (pv 1) pa_nil)) pe_int (nomark _))
          (pw_or1 (pt_not (pt_val (pe_callB (cr_all rfl) (by rfl) mA (by decide +kernel) (pa_cons (pe_lc (own := [("word", 2)]) (g := gName 2) rfl scTold.nd (pi_list (pv 1)) (blkOk_by (N := ["text", "words", "word"]) (sc := defScope sTold) (by decide +kernel))
            (fun _ _ _ _ _ => pg_name (i := 2) scTold.nd rfl (Or.inl rfl)) (fun _ _ _ _ _ => pts_nil) (fun _ _ _ _ _ => pe_call GS hr (by rfl) gS FS.kp bS .nil pass0 (pa_cons (pv 2) pa_nil))) pa_nil))))))) (pss_one (ps_ret pe_non)) pss_nil)
      (pss_one (ps_ret (pe_tup (pa_cons (pe_callTy call_int_str (by rfl) mI (by decide +kernel) (pa_cons (pe_ix ix_list (pv 1) pe_int (fun _ _ => rfl)) pa_nil))
        (pa_cons (pe_callTy call_int_str (by rfl) mI (by decide +kernel) (pa_cons (pe_ix ix_list (pv 1) pe_int (fun _ _ => rfl)) pa_nil))
        (pa_cons (pe_callTy call_int_str (by rfl) mI (by decide +kernel) (pa_cons (pe_ix ix_list (pv 1) pe_int (fun _ _ => rfl)) pa_nil)) pa_nil))))))), ?_⟩
    refine ⟨.str x, rfl, ⟨x, rfl⟩, x, Dot, rfl, rfl, by decide +kernel, by rw [sizeLine_eq]; omega, fun p np => ?_⟩
    have hm := split_many x
    have hsl : ∀ w ∈ Txt.split x Dot, w.length ≤ x.length := fun w h => split_len h
    have qq : ∀ H' v, Same H H' → OV H' v (if (Txt.split x Dot).length = 3 ∧ (Txt.split x Dot).all shownB = true then some ((Txt.split x Dot).map val) else none) → Q v H' := q
    generalize Txt.split x Dot = ws at hm hsl qq ⊢
    have hp : upd H p (.lst (ws.map V.str)) p = some (.lst (ws.map V.str)) := upd_same
    have s0 : Same H (upd H p (.lst (ws.map V.str))) := new_same np
    generalize upd H p (.lst (ws.map V.str)) = H1 at hp s0 ⊢
    refine ⟨_, rfl, p, ws.map V.str, rfl, .inl (.inl (.inl hp)), rfl, _, rfl, ?_⟩
    rw [List.length_map]
    by_cases h3 : ws.length = 3
    · have e3 : (!decide (V.int (ws.length : Nat) = V.int 3)) = false := by rw [h3]; rfl
      rw [e3]
      refine ⟨_, rfl, p, rfl, ⟨_, .inl (.inl hp)⟩, fun Dl nD => ?_⟩
      refine lc_it (walk_list (xs := ws.map V.str)) (fun j Hc => Hc Dl = some (.lst ((ws.take j).map fun w => .bl (shownB w))) ∧ Same H1 Hc) ⟨by rw [List.take_zero]; exact upd_same, new_same nD⟩ (fun j Hc _ hP => .inl (.inl (hP.2 _ _ hp))) ?_ (fun Hc hP => ?_)
      · rintro j v Hc H' hj ⟨c1, c2⟩ ⟨rfl, hx'⟩
        rw [List.getElem?_map] at hx'
        obtain ⟨w, hw, rfl⟩ := Option.map_eq_some_iff.mp hx'
        have nDH : H1 Dl = none := nD
        refine ⟨rfl, .str w, rfl, w, rfl, by have := hsl w (List.mem_of_getElem? hw); omega, fun H2 s2 => ⟨_, s2 _ _ c1, by rw [List.length_map, List.length_take, sizeLine_eq]; omega, ?_, fun y o h => ?_⟩⟩
        · rw [upd_same, List.take_add_one, hw, List.map_append]
          rfl
        · rw [upd_ne (ne_of_none h nDH)]
          exact s2 _ _ (c2 y o h)
      · obtain ⟨c1, c2⟩ := hP
        rw [List.length_map, List.take_length] at c1
        have hp' := c2 _ _ hp
        refine ⟨Dl, ws.map shownB, rfl, .inl (.inl (by rw [c1, List.map_map]; rfl)), _, rfl, ?_⟩
        rw [List.all_map]
        have ea : ws.all (id ∘ shownB) = ws.all shownB := rfl
        rw [ea]
        by_cases ha : ws.all shownB = true
        · rw [ha]
          rw [if_pos ⟨h3, ha⟩] at qq
          obtain ⟨a, b, c, rfl⟩ : ∃ a b c, ws = [a, b, c] := by
            match ws, h3 with
            | [a, b, c], _ => exact ⟨a, b, c, rfl⟩
          simp only [List.all_cons, List.all_nil, Bool.and_eq_true] at ha
          obtain ⟨ka, kb, kc, _⟩ := ha
          have l640 : ∀ w, shownB w = true → w.length ≤ 640 := fun w h => by obtain ⟨_, _, _, z⟩ := shown_val h; omega
          refine ⟨_, rfl, p, _, 0, .str a, rfl, rfl, .inl (.inl hp'), rfl, a, val a, rfl, val_of ka, l640 a ka, ?_⟩
          refine ⟨_, rfl, p, _, 1, .str b, rfl, rfl, .inl (.inl hp'), rfl, b, val b, rfl, val_of kb, l640 b kb, ?_⟩
          refine ⟨_, rfl, p, _, 2, .str c, rfl, rfl, .inl (.inl hp'), rfl, c, val c, rfl, val_of kc, l640 c kc, ?_⟩
          exact ⟨by show 3 ≤ sizeLine; decide, fun r nr => qq _ _ (s0.trans (c2.trans (new_same nr))) ⟨r, rfl, upd_same⟩⟩
        · have ha' : ws.all shownB = false := by simpa using ha
          rw [ha']
          rw [if_neg (fun z => ha z.2)] at qq
          exact qq Hc .non (s0.trans c2) rfl
    · have e3 : (!decide (V.int (ws.length : Nat) = V.int 3)) = true := by
        rw [decide_eq_false (fun z => h3 (by injection z with z; omega))]
        rfl
      rw [e3]
      rw [if_neg (fun z => h3 z.1)] at qq
      exact qq H1 .non s0 rfl
end
end V1
/-! The law's own reading of a version. -/
namespace V1
open PySem PySem.Spec PyProof.Rows L2 TL
/-- all but b is as it was -/
def Chg (b : Addr) (H H' : Hp) : Prop := ∀ a o, a ≠ b → H a = some o → H' a = some o
theorem Chg.refl {b : Addr} {H : Hp} : Chg b H H := fun _ _ _ h => h
theorem Chg.trans {b : Addr} {H H1 H2 : Hp} (x : Chg b H H1) (y : Chg b H1 H2) : Chg b H H2 := fun a o n h => y a o n (x a o n h)
theorem Chg.set {b : Addr} {o : HO} {H : Hp} : Chg b H (upd H b o) := fun a u n e => by rw [upd_ne n]; exact e
theorem Chg.same {b : Addr} {H H' : Hp} (h : Same H H') : Chg b H H' := fun a o _ e => h a o e
section
variable {X : Cx}
/-- a list != [] -/
theorem op_neL0 (hu : X.A.units < cLine) : OpR X (compareOp .NotEq) (fun x y H Q => ∃ (a b : Addr) (xs : List V), x = .ref a ∧ y = .ref b ∧ H a = some (.lst xs) ∧ H b = some (.lst []) ∧ Q (.bl (!xs.isEmpty)) H) := by
  intro pins s σ H x y v u Q I rx ry h
  obtain ⟨a, b, xs, rfl, rfl, ha, hb, q⟩ := h
  cases (show v = Value.ref a from rx)
  cases (show u = Value.ref b from ry)
  obtain ⟨i1, r1, p1, _⟩ := I.list (.inl (.inl ha))
  obtain ⟨i2, r2, p2, _⟩ := I.list (.inl (.inl hb))
  cases r2
  cases r1 with
  | nil => exact SeqAt.RcNeAt.lists (e := fun _ => true) p1.isList p2.isList rfl hu (fun j _ h2 => absurd h2 (Nat.not_lt_zero j)) _ _ _ _ ⟨.bl false, H, I, rfl, q⟩
  | cons c d => exact SeqAt.RcNeAt.lists_lengths p1.isList p2.isList (by simp) hu _ _ _ _ ⟨.bl true, H, I, rfl, q⟩
end
def pre1 (w : PySem.Str) : Bool := decide (1 ≤ w.length) && decide (w.length ≤ 6) && allIn Fg w.cps.toList
def good (w : PySem.Str) : Bool := decide (V.str w = V.str "0") || headOk w
def fv (w : PySem.Str) : Int := if good w = true then val w else -1
theorem shown_pre (w : PySem.Str) : shownB w = (pre1 w && good w) := by
  unfold shownB pre1 good
  simp only [Bool.and_assoc]
theorem pre_val {w : PySem.Str} (h : pre1 w = true) : ∃ n : Nat, intText? w = some (n : Int) ∧ val w = n := by
  unfold pre1 at h
  simp only [Bool.and_eq_true, decide_eq_true_eq] at h
  obtain ⟨n, e, _⟩ := digits_val h.1.1 h.1.2 h.2
  refine ⟨n, e, ?_⟩
  unfold val
  rw [e]
  rfl
theorem fv_good {w : PySem.Str} (h : pre1 w = true) : (0 ≤ fv w ↔ good w = true) := by
  obtain ⟨n, _, e⟩ := pre_val h
  unfold fv
  split
  · rename_i g
    rw [e]
    exact ⟨fun _ => g, fun _ => by omega⟩
  · rename_i g
    exact ⟨fun z => by omega, fun z => absurd z g⟩
theorem min3 (i j k : Int) : ∃ m, nuMin3 (.int i) (.int j) (.int k) = some (.int m) ∧ (0 ≤ m ↔ 0 ≤ i ∧ 0 ≤ j ∧ 0 ≤ k) := by
  have two : ∀ i j : Int, nuMin2 (.int i) (.int j) = some (.int (if j < i then j else i)) := fun i j => by
    have e : nuMin2 (.int i) (.int j) = some (if decide (j < i) = true then V.int j else V.int i) := rfl
    rw [e]
    by_cases h : j < i <;> simp [h]
  refine ⟨if k < (if j < i then j else i) then k else (if j < i then j else i), ?_, ?_⟩
  · unfold nuMin3
    rw [two]
    exact two _ _
  · split <;> split <;> omega
theorem len_nil {w : PySem.Str} : decide (V.str w = V.str "") = decide (w.length = 0) := by
  refine decide_eq_decide.mpr ⟨fun z => ?_, fun z => ?_⟩
  · injection z with z
    rw [z]
    rfl
  · congr 1
    refine ext_tl ?_
    rw [(len0_tl w).mp z]
    rfl
section
variable {P : Program} {w : World} {K : PySem.W.Frag} {mg : PySem.Str → Option Value} {base : Heap}
theorem ok_lread {f : Addr} {fd : FuncData} {k : Nat} (F : Fun K "_law_read_version" "_law_read_version" sLRead f fd) (mL : mg "len" = none) (mI : mg "int" = none) (mM : mg "min" = none) (mT : mg "tuple" = none) : FnOk P w K mg base CX0 (k + 1) f fd ["text"] spTold := by
  refine F.ok scLRead (fun vs H Q E h => ?_) (fun cdv A outer s H vs Q E hr h => ?_)
  · obtain ⟨x, rfl, _⟩ := h
    rfl
  · obtain ⟨x, rfl, hx, q⟩ := h
    refine ⟨_, pss_cons (ps_par (i := 1) (j := 2) rfl scLRead.nd rfl rfl (by decide) rfl rfl (pa_cons (pe_split (pv 0) pe_str) (pa_cons (pe_lst pa_nil) pa_nil)) (by rfl))
      (pss_cons (ps_for PassesOwn.never rfl (pi_list (pv 1)) (pg_name (i := 3) scLRead.nd rfl (Or.inl rfl))
        (pss_cons (ps_if (PW.pt (pw_or (pt_cmpR op_eq (pv 3) pe_str (nomark _)) (pw_or (pt_cmpR op_gt (pe_callB call_len_str (by rfl) mL PySem.boot_len (pa_cons (pv 3) pa_nil)) pe_int (nomark _))
            (pw_or1 (pt_cmpR (op_neL0 hr.units0) (pe_lc (own := [("sign", 4)]) (g := gName 4) rfl scLRead.nd (pi_str (pv 3)) (blkOk_by (N := ["text", "parts", "found", "part", "sign"]) (sc := defScope sLRead) (by decide +kernel))
              (fun _ _ _ _ _ => pg_name (i := 4) scLRead.nd rfl (Or.inl rfl)) (fun _ _ _ _ _ => pts_one (pt_cmpR op_notIn_sign (pv 4) pe_str (by rfl))) (fun _ _ _ _ _ => pv 4)) (pe_lst pa_nil) (nomark _)))))) (pss_one (ps_ret pe_non)) pss_nil)
        (pss_one (ps_expr (pe_bm PySem.F.plainAttrs_list PySem.F.slot_list_append PySem.F.type_list_append mt_append (pv 2) (pa_cons (pe_ifExp (PW.pt (pw_or (pt_cmpR op_eq (pv 3) pe_str (nomark _)) (pw_or1 (pt_cmpR op_ne (pe_ix ix_str (pv 3) pe_int (fun _ _ => rfl)) pe_str (nomark _)))))
          (pe_callTy call_int_str (by rfl) mI (by decide +kernel) (pa_cons (pv 3) pa_nil)) (pe_un un_neg pe_int)) pa_nil))))))
      (pss_one (ps_ret (pe_ifExp (PW.pt (pw_and (pt_cmpR op_eq (pe_callB call_len_seq (by rfl) mL PySem.boot_len (pa_cons (pv 2) pa_nil)) pe_int (nomark _)) (pw_and1 (pt_cmpR op_ge (pe_callB (call_minL3 rfl) (by rfl) mM (by decide +kernel) (pa_cons (pv 2) pa_nil)) pe_int (nomark _)))))
        (pe_callTy call_tuple_of (by rfl) mT (by decide +kernel) (pa_cons (pv 2) pa_nil)) pe_non)))), ?_⟩
    refine ⟨.str x, rfl, ⟨x, rfl⟩, x, Dot, rfl, rfl, by decide +kernel, by rw [sizeLine_eq]; omega, fun p np => ⟨by show 0 ≤ sizeLine; exact Nat.zero_le _, fun ff nf => ⟨_, _, rfl, ?_⟩⟩⟩
    have hm := split_many x
    have hsl : ∀ w ∈ Txt.split x Dot, w.length ≤ x.length := fun w h => split_len h
    have qq : ∀ H' v, Same H H' → OV H' v (if (Txt.split x Dot).length = 3 ∧ (Txt.split x Dot).all shownB = true then some ((Txt.split x Dot).map val) else none) → Q v H' := q
    generalize Txt.split x Dot = ws at hm hsl qq np nf ⊢
    have pf : p ≠ ff := ne_of_none upd_same nf
    have hp : upd (upd H p (.lst (ws.map V.str))) ff (.lst []) p = some (.lst (ws.map V.str)) := new_ne upd_same nf
    have hf : upd (upd H p (.lst (ws.map V.str))) ff (.lst []) ff = some (.lst []) := upd_same
    have s0 : Same H (upd (upd H p (.lst (ws.map V.str))) ff (.lst [])) := (new_same np).trans (new_same nf)
    have nfH : H ff = none := same_none (new_same np) nf
    generalize upd (upd H p (.lst (ws.map V.str))) ff (.lst []) = H1 at hp hf s0 ⊢
    refine ⟨_, rfl, p, rfl, ⟨_, .inl (.inl hp)⟩, for_it (walk_list (xs := ws.map V.str)) (fun j σ' Hc => (∃ y3, σ' = [some (.str x), some (.ref p), some (.ref ff), y3, none]) ∧ Chg ff H1 Hc ∧ Hc ff = some (.lst ((ws.take j).map fun w => V.int (fv w))) ∧ (ws.take j).all pre1 = true)
      ⟨⟨none, rfl⟩, Chg.refl, by rw [List.take_zero]; exact hf, by rw [List.take_zero]; rfl⟩ (fun j σ' Hc _ hP => .inl (.inl (hP.2.1 _ _ pf hp))) ?_ (fun σ' Hc hP => ?_)⟩
    · rintro j v σ' Hc H' hj ⟨⟨y3, rfl⟩, c1, c2, c3⟩ ⟨rfl, hx'⟩
      rw [List.getElem?_map] at hx'
      obtain ⟨w, hw, rfl⟩ := Option.map_eq_some_iff.mp hx'
      have hmem := List.mem_of_getElem? hw
      have hwl := hsl w hmem
      have same : ∀ H'', Same H' H'' → Same H H'' := fun H'' s y o h => s _ _ (c1 _ _ (ne_of_none h nfH) (s0 _ _ h))
      have bad : ∀ H'', pre1 w = false → Same H' H'' → Q .non H'' := fun H'' e s => by
        refine qq H'' .non (same _ s) ?_
        rw [if_neg (fun z => ?_)]
        · rfl
        · have := List.all_eq_true.mp z.2 w hmem
          rw [shown_pre, e] at this
          exact Bool.false_ne_true this
      have hz : w.length ≤ sizeLine := by rw [sizeLine_eq]; omega
      refine ⟨.str w, rfl, rfl, _, rfl, ?_⟩
      rw [len_nil]
      by_cases h0 : w.length = 0
      · rw [decide_eq_true h0]
        exact bad H' (by unfold pre1; rw [decide_eq_false (show ¬ 1 ≤ w.length by omega)]; rfl) (Same.refl _)
      · rw [decide_eq_false h0]
        have h1 : 1 ≤ w.length := by omega
        refine ⟨.str w, rfl, w, rfl, hz, (w.length : Nat), 6, rfl, rfl, _, rfl, ?_⟩
        by_cases h6 : w.length ≤ 6
        · rw [decide_eq_false (show ¬ ((w.length : Nat) : Int) > 6 by omega)]
          refine ⟨.str w, rfl, w, rfl, fun Dl nD => ?_⟩
          refine lc_it (walk_str (z := w)) (fun j Hc => Same H' Hc ∧ ∃ acc, Hc Dl = some (.lst acc) ∧ acc.length ≤ j ∧ acc.isEmpty = allIn Fg (w.cps.toList.take j)) ⟨new_same nD, [], upd_same, Nat.le_refl _, by rw [List.take_zero]; rfl⟩ (fun j Hc _ hP => trivial) ?_ (fun Hd hP => ?_)
          · rintro i v Hd H2 hi ⟨d2, acc, d1, d3, d4⟩ ⟨rfl, c, hc, rfl⟩
            have hc' : w.cps.toList[i]? = some c := by rw [Array.getElem?_toList]; exact hc
            have e7 : allIn Fg (w.cps.toList.take (i + 1)) = (acc.isEmpty && decide (c ∈ Fg.cps.toList)) := by
              unfold allIn at d4 ⊢
              rw [List.take_add_one, hc', List.all_append, d4]
              simp
            refine ⟨rfl, .str ⟨#[c]⟩, rfl, c, Fg, rfl, rfl, _, rfl, ?_⟩
            by_cases e8 : decide (c ∈ Fg.cps.toList) = true
            · rw [e8, Bool.and_true] at e7
              rw [e8]
              exact ⟨d2, acc, d1, by omega, e7.symm⟩
            · have e8' : decide (c ∈ Fg.cps.toList) = false := by simpa using e8
              rw [e8', Bool.and_false] at e7
              rw [e8']
              have : w.cps.size = w.length := rfl
              refine ⟨.str ⟨#[c]⟩, rfl, acc, d1, by rw [sizeLine_eq]; omega, fun y o h => ?_, acc ++ [.str ⟨#[c]⟩], upd_same, by rw [List.length_append]; show acc.length + 1 ≤ _; omega, ?_⟩
              · rw [upd_ne (ne_of_none h nD)]
                exact d2 y o h
              · rw [e7]
                simp
          · obtain ⟨d2, acc, d1, d3, d4⟩ := hP
            have e9 : w.cps.toList.take w.cps.size = w.cps.toList := List.take_of_length_le (by simp)
            rw [e9] at d4
            refine ⟨by show 0 ≤ sizeLine; exact Nat.zero_le _, fun r nr => ⟨Dl, r, acc, rfl, rfl, new_ne d1 nr, upd_same, _, rfl, ?_⟩⟩
            rw [d4]
            have sr : Same H' (upd Hd r (.lst [])) := d2.trans (new_same nr)
            generalize upd Hd r (.lst []) = H3 at sr ⊢
            by_cases ea : allIn Fg w.cps.toList = true
            · rw [ea]
              have hpre : pre1 w = true := by unfold pre1; rw [decide_eq_true h1, decide_eq_true h6, ea]; rfl
              have hff := sr _ _ c2
              have step : ∀ z : Int, z = fv w → ∃ l xs y, V.ref ff = .ref l ∧ [V.int z] = [y] ∧ H3 l = some (.lst xs) ∧ xs.length < sizeLine ∧ ((∃ y3, ([some (.str x), some (.ref p), some (.ref ff), some (.str w), none] : L2.St) = [some (.str x), some (.ref p), some (.ref ff), y3, none]) ∧ Chg ff H1 (upd H3 l (.lst (xs ++ [y]))) ∧
                  upd H3 l (.lst (xs ++ [y])) ff = some (.lst ((ws.take (j + 1)).map fun w => V.int (fv w))) ∧ (ws.take (j + 1)).all pre1 = true) := by
                rintro z rfl
                refine ⟨ff, _, .int (fv w), rfl, rfl, hff, by rw [List.length_map, List.length_take, sizeLine_eq]; omega, ⟨_, rfl⟩, (c1.trans (Chg.same sr)).trans Chg.set, ?_, ?_⟩
                · rw [upd_same, List.take_add_one, hw, List.map_append]
                  rfl
                · rw [List.take_add_one, hw, List.all_append, c3]
                  simp [hpre]
              obtain ⟨n, hi, hv⟩ := pre_val hpre
              refine ⟨_, rfl, .inl ⟨rfl, _, .inl (.inl hff)⟩, ?_⟩
              have eg : good w = (decide (V.str w = V.str "0") || headOk w) := rfl
              refine ⟨.str w, rfl, rfl, _, rfl, ?_⟩
              have yes : good w = true → ∃ a n, [V.str w] = [V.str a] ∧ intText? a = some n ∧ a.length ≤ 640 ∧ (∃ l xs y, V.ref ff = .ref l ∧ [V.int n] = [y] ∧ H3 l = some (.lst xs) ∧ xs.length < sizeLine ∧ ((∃ y3, ([some (.str x), some (.ref p), some (.ref ff), some (.str w), none] : L2.St) = [some (.str x), some (.ref p), some (.ref ff), y3, none]) ∧ Chg ff H1 (upd H3 l (.lst (xs ++ [y]))) ∧
                  upd H3 l (.lst (xs ++ [y])) ff = some (.lst ((ws.take (j + 1)).map fun w => V.int (fv w))) ∧ (ws.take (j + 1)).all pre1 = true)) := fun g => ⟨w, n, rfl, hi, by omega, step n (by unfold fv; rw [if_pos g, hv])⟩
              by_cases e4 : decide (V.str w = V.str "0") = true
              · rw [e4]
                exact ⟨.str w, rfl, yes (by rw [eg, e4]; rfl)⟩
              · have e4' : decide (V.str w = V.str "0") = false := by simpa using e4
                rw [e4']
                have hl : 1 ≤ w.cps.toList.length := h1
                cases e5 : w.cps.toList with
                | nil => rw [e5] at hl; simp at hl
                | cons c l =>
                  have eh : headOk w = !decide (c = 48) := by unfold headOk; rw [e5]
                  refine ⟨.str w, rfl, w, 0, c, rfl, rfl, hz, by rw [e5]; exact atI_nat (j := 0) rfl, rfl, _, rfl, ?_⟩
                  have e6 : decide (V.str ⟨#[c]⟩ = V.str "0") = decide (c = 48) := by
                    refine decide_eq_decide.mpr ⟨fun z => ?_, fun z => ?_⟩
                    · injection z with z
                      have z2 := congrArg (fun y : PySem.Str => y.cps.toList) z
                      have e0 : ("0" : PySem.Str).cps.toList = [48] := by decide +kernel
                      simp only [e0] at z2
                      simpa using z2
                    · subst z
                      rfl
                  rw [e6]
                  by_cases e48 : c = 48
                  · rw [decide_eq_true e48]
                    exact ⟨1, rfl, step (-1) (by unfold fv; rw [if_neg (by rw [eg, e4', eh, decide_eq_true e48]; simp)])⟩
                  · rw [decide_eq_false e48]
                    exact ⟨.str w, rfl, yes (by rw [eg, e4', eh, decide_eq_false e48]; rfl)⟩
            · have ea' : allIn Fg w.cps.toList = false := by simpa using ea
              rw [ea']
              exact bad _ (by unfold pre1; rw [ea', Bool.and_false]) sr
        · rw [decide_eq_true (show ((w.length : Nat) : Int) > 6 by omega)]
          exact bad H' (by unfold pre1; rw [decide_eq_false h6, Bool.and_false]; rfl) (Same.refl _)
    · obtain ⟨⟨y3, rfl⟩, c1, c2, c3⟩ := hP
      rw [List.length_map, List.take_length] at c2 c3
      have sH : Same H Hc := fun y o h => c1 _ _ (ne_of_none h nfH) (s0 _ _ h)
      refine ⟨_, rfl, ff, ws.map fun w => V.int (fv w), rfl, .inl (.inl (.inl c2)), rfl, _, rfl, ?_⟩
      rw [List.length_map]
      by_cases h3 : ws.length = 3
      · have e3 : decide (V.int (ws.length : Nat) = V.int 3) = true := by rw [h3]; rfl
        rw [e3]
        obtain ⟨a, b, c, rfl⟩ : ∃ a b c, ws = [a, b, c] := by
          match ws, h3 with
          | [a, b, c], _ => exact ⟨a, b, c, rfl⟩
        simp only [List.all_cons, List.all_nil, Bool.and_eq_true] at c3
        obtain ⟨ka, kb, kc, _⟩ := c3
        obtain ⟨m, hm3, hm0⟩ := min3 (fv a) (fv b) (fv c)
        rw [fv_good ka, fv_good kb, fv_good kc] at hm0
        refine ⟨_, rfl, ff, .int (fv a), .int (fv b), .int (fv c), .int m, rfl, .inl (.inl c2), hm3, m, 0, rfl, rfl, _, rfl, ?_⟩
        by_cases h0 : 0 ≤ m
        · obtain ⟨ga, gb, gc⟩ := hm0.mp h0
          rw [decide_eq_true (show m ≥ 0 from h0)]
          refine ⟨_, rfl, ff, _, rfl, .inl ⟨.inl (.inl c2), fun r nr => qq _ _ (sH.trans (new_same nr)) ?_⟩⟩
          rw [if_pos ⟨rfl, by simp [shown_pre, ka, kb, kc, ga, gb, gc]⟩]
          refine ⟨r, rfl, ?_⟩
          rw [upd_same]
          simp [fv, ga, gb, gc]
        · rw [decide_eq_false (show ¬ m ≥ 0 from h0)]
          refine qq Hc .non sH ?_
          rw [if_neg (fun z => ?_)]
          · rfl
          · have z2 := z.2
            simp only [List.all_cons, List.all_nil, Bool.and_eq_true, shown_pre] at z2
            exact h0 (hm0.mpr ⟨z2.1.2, z2.2.1.2, z2.2.2.1.2⟩)
      · have e3 : decide (V.int (ws.length : Nat) = V.int 3) = false := decide_eq_false fun z => h3 (by injection z with z; omega)
        rw [e3]
        refine qq Hc .non sH ?_
        rw [if_neg (fun z => h3 z.1)]
        rfl
end
end V1
/-! Versions drawn. -/
namespace V1
open PySem PySem.Spec PyProof.Rows L2 TL
theorem nodup_len {α : Type} [DecidableEq α] : ∀ {xs ys : List α}, xs.Nodup → (∀ x ∈ xs, x ∈ ys) → xs.length ≤ ys.length
  | [], _, _, _ => Nat.zero_le _
  | x :: xs, ys, hn, hs => by
    have hx := hs x List.mem_cons_self
    have h2 := List.nodup_cons.mp hn
    have ih := nodup_len (xs := xs) (ys := ys.erase x) h2.2 fun y hy => by
      have hne : y ≠ x := fun e => h2.1 (e ▸ hy)
      exact (List.mem_erase_of_ne hne).mpr (hs y (List.mem_cons_of_mem _ hy))
    rw [List.length_erase_of_mem hx] at ih
    have : 0 < ys.length := List.length_pos_of_mem hx
    rw [List.length_cons]
    omega
/-- versions at these places -/
def VA (b : Addr) (H : Hp) (L : List (Addr × List Int)) : Prop := ∀ q ∈ L, H q.1 = some (.tup (q.2.map V.int)) ∧ Vs q.2 ∧ q.1 ≠ b
abbrev rf (L : List (Addr × List Int)) : List V := L.map fun q => V.ref q.1
theorem VA.chg {b : Addr} {H H' : Hp} {L : List (Addr × List Int)} (h : VA b H L) (c : Chb b H H') : VA b H' L := fun q hq => ⟨c _ _ (h q hq).2.2 (h q hq).1, (h q hq).2⟩
theorem VA.nil {b : Addr} {H : Hp} : VA b H [] := fun q hq => by cases hq
theorem VA.cons {b : Addr} {H : Hp} {L : List (Addr × List Int)} {q : Addr × List Int} (h1 : H q.1 = some (.tup (q.2.map V.int)) ∧ Vs q.2 ∧ q.1 ≠ b) (h : VA b H L) : VA b H (q :: L) := fun r hr => by
  rcases List.mem_cons.mp hr with e | e
  · exact e ▸ h1
  · exact h r e
theorem VA.app {b : Addr} {H : Hp} {L M : List (Addr × List Int)} (h1 : VA b H L) (h : VA b H M) : VA b H (L ++ M) := fun r hr => by
  rcases List.mem_append.mp hr with e | e
  · exact h1 r e
  · exact h r e
theorem vs3 {a b c : Int} (ha : 0 ≤ a ∧ a < 1000000) (hb : 0 ≤ b ∧ b < 1000000) (hc : 0 ≤ c ∧ c < 1000000) : Vs [a, b, c] := ⟨rfl, fun n hn => by
  simp only [List.mem_cons, List.not_mem_nil, or_false] at hn
  rcases hn with e | e | e
  · exact e ▸ ha
  · exact e ▸ hb
  · exact e ▸ hc⟩
/-- sorted(set(e)) -/
theorem pe_sorts {X : Cx} {e : Expr} {te : TE} {p1 p2 p3 p4 : Pos} (b : Addr) (hc : X.calm = true) (hu : X.A.units + 64 < cLine) (hg1 : Gl X "sorted") (hg2 : Gl X "set") (m1 : X.mg "sorted" = none) (m2 : X.mg "set" = none) (he : PE X e te)
    (h1 : starEach (e :: []) X.env = (false, eval e X.env) :: starEach [] X.env) :
    PE X (.Call (.Name "sorted" p1) [.Call (.Name "set" p2) [e] [] p3] [] p4) (fun σ H Q => te σ H fun x H1 => ∃ l L o, x = .ref l ∧ H1 l = some (.lst (rf L)) ∧ VA b H1 L ∧ L ≠ [] ∧ L.length < 64 ∧ H1 b = some o ∧
      ∀ H' p M, Same H1 H' → H1 p = none → H' p = some (.lst (rf M)) → VA b H' M → M ≠ [] → M.length ≤ L.length → Q (.ref p) H') := by
  constructor
  intro pins s σ H Q I h
  have R := pe_callB (X := X) (pos := p4) (p := p1) (cr_sortedT hc) hg1 m1 (by decide +kernel) (pa_cons (pe_callTy (pos := p3) (p := p2) (cr_setOfT hc hu) hg2 m2 (by decide +kernel) (pa_cons (pe_mid he) pa_nil h1) (by decide) (by decide) h1 (by rfl)) pa_nil) (by decide) (by decide) (by rfl) (by rfl)
  refine R.run pins s σ H Q I ⟨_, h, ?_⟩
  rintro x H1 ⟨l, L, o, rfl, hl, hV, hne, hlen, hb, q⟩
  refine ⟨l, L, rfl, .inl (.inl hl), fun r hr => .inl (.inl (hV r hr).1), hlen, fun a S na hS hL => ?_⟩
  have s1 : Same H1 (upd H1 a (SetTO X.prog X.w a S)) := new_same na
  have hVS : VA b H1 S := fun r hr => hV r (hS r hr)
  have hV2 : VA b (upd H1 a (SetTO X.prog X.w a S)) S := hVS.chg (Chb.same s1)
  refine ⟨a, S, 3, 1000000, rfl, upd_same, fun r hr => .inl (.inl (hV2 r hr).1), by decide, fun r hr => ⟨(hVS r hr).2.1.1, fun m hm => (hVS r hr).2.1.2 m hm⟩, fun M p perm nd lt _ np => ?_⟩
  have hM : ∀ r ∈ M, r ∈ S := fun r hr => perm.mem_iff.mp hr
  refine q _ p M (s1.trans (new_same np)) (same_none s1 np) upd_same (fun r hr => ?_) ?_ ?_
  · have z := (hV2.chg (Chb.same (new_same (o := .lst (rf M)) np))) r (hM r hr)
    exact z
  · intro e
    subst e
    have : S = [] := List.perm_nil.mp perm.symm |> fun z => by simpa using z
    subst this
    cases L with
    | nil => exact hne rfl
    | cons r L =>
      have := hL r List.mem_cons_self
      simp at this
  · have := nodup_len nd (ys := L.map (·.2)) fun x hx => by
      obtain ⟨r, hr, rfl⟩ := List.mem_map.mp hx
      exact List.mem_map.mpr ⟨r, hS r (hM r hr), rfl⟩
    simpa using this
end V1
namespace V1
open PySem PySem.Spec PyProof.Rows L2 TL
abbrev sVersions : Stmt := topS 24
abbrev sVersion : Stmt := topS 25
abbrev sFar : Stmt := topS 26
theorem scVersions : FnScope ["bag", "many", "found", "turn"] ["bag", "many"] (defScope sVersions) := ⟨rfl, rfl, rfl, by decide +kernel, rfl, by decide +kernel, by decide +kernel⟩
theorem scVersion : FnScope ["bag", "menu", "part"] ["bag"] (defScope sVersion) := ⟨rfl, rfl, rfl, by decide +kernel, rfl, by decide +kernel, by decide +kernel⟩
theorem scFar : FnScope ["bag", "found", "last", "some", "turn"] ["bag"] (defScope sFar) := ⟨rfl, rfl, rfl, by decide +kernel, rfl, by decide +kernel, by decide +kernel⟩
theorem Bag.lst {b : Addr} {H : Hp} (B : Bag H b) : ∃ o, H b = some o := by
  obtain ⟨n, m, k, l, cs, hb, _⟩ := B
  exact ⟨_, hb⟩
/-- the bag's own list -/
def Own (H : Hp) (b l : Addr) : Prop := ∃ x y z, H b = some (.lst [x, y, z, .ref l])
theorem Bag.own {b : Addr} {H : Hp} (B : Bag H b) : ∃ l cs, Own H b l ∧ H l = some (.lst cs) ∧ l ≠ b := by
  obtain ⟨n, m, k, l, cs, hb, hl, hne, _⟩ := B
  exact ⟨l, _, ⟨_, _, _, hb⟩, hl, hne⟩
theorem Own.chb {b l : Addr} {H H' : Hp} (o : Own H b l) (c : Chb b H H') : Own H' b l := by
  obtain ⟨x, y, z, h⟩ := o
  exact c.fo _ _ _ _ h
/-- another object changed -/
theorem Bag.set {b l r : Addr} {H : Hp} {o : HO} (B : Bag H b) (w : Own H b l) (h1 : r ≠ b) (h2 : r ≠ l) : Bag (upd H r o) b ∧ Own (upd H r o) b l := by
  obtain ⟨n, m, k, l', cs, hb, hl, rest⟩ := B
  obtain ⟨x, y, z, hw⟩ := w
  rw [hb] at hw
  cases hw
  have e1 : upd H r o b = some (.lst [.int n, .int m, .int k, .ref l]) := by rw [upd_ne h1.symm]; exact hb
  have e2 : upd H r o l = some (.lst (cs.map V.int)) := by rw [upd_ne h2.symm]; exact hl
  exact ⟨⟨n, m, k, l, cs, e1, e2, rest⟩, ⟨_, _, _, e1⟩⟩
theorem Chb.put {b r : Addr} {H H' : Hp} {o : HO} (c : Chb b H H') (n : H r = none) (h : r ≠ b) : Chb b H (upd H' r o) := ⟨fun a u ne e => by
  rw [upd_ne (ne_of_none e n)]
  exact c.app a u ne e, fun x y z l e => by
  obtain ⟨p, q, s, e'⟩ := c.fo x y z l e
  exact ⟨p, q, s, by rw [upd_ne h.symm]; exact e'⟩⟩
section
variable {P : Program} {w : World} {K : PySem.W.Frag} {mg : PySem.Str → Option Value} {base : Heap}
def spVersions : Sp := fun vs H Q _ => ∃ (b : Addr) (n : Nat), vs = [.ref b, .int (n : Nat)] ∧ Bag H b ∧ 1 ≤ n ∧ n ≤ 5 ∧ ∀ H' p L, Chb b H H' → Bag H' b → H' p = some (.lst (rf L)) → p ≠ b → VA b H' L → L ≠ [] → L.length ≤ 5 → Q (.ref p) H'
theorem ok_versions {f fO fT : Addr} {fd fdO fdT : FuncData} {k : Nat} (F : Fun K "_law_versions" "_law_versions" sVersions f fd) (FO : Fun K "_law_one" "_law_one" sOne fO fdO) (bO : Binds K fdO ["bag", "things"] []) (gO : mg "_law_one" = some (.ref fO))
    (FT : Fun K "_law_take" "_law_take" sTake fT fdT) (bT : Binds K fdT ["bag", "many"] []) (gT : mg "_law_take" = some (.ref fT)) (mI : mg "int" = none) (mL : mg "len" = none) (mR : mg "range" = none) (mS : mg "sorted" = none) (mE : mg "set" = none) :
    FnOk P w K mg base CX0 (k + 3) f fd ["bag", "many"] spVersions := by
  have GO : FnOk P w K mg base CX0 (k + 2) fO fdO ["bag", "things"] spOne := ok_one FO FT bT gT mI mL
  have GT : FnOk P w K mg base CX0 (k + 2) fT fdT ["bag", "many"] spTake := ok_take FT mI
  refine F.ok scVersions (fun vs H Q E h => ?_) (fun cdv A outer s H vs Q E hr h => ?_)
  · obtain ⟨b, n, rfl, _⟩ := h
    rfl
  · obtain ⟨b, n, rfl, hB, hn1, hn5, q⟩ := h
    refine ⟨_, pss_cons (ps_set (i := 2) scVersions.nd rfl (.inl rfl) (pe_lst pa_nil))
      (pss_cons (ps_for PassesOwn.never rfl (pi_range1 (by rfl) mR (pa_cons (pv 1) pa_nil)) (pg_name (i := 3) scVersions.nd rfl (Or.inl rfl))
        (pss_one (ps_expr (pe_bm PySem.F.plainAttrs_list PySem.F.slot_list_append PySem.F.type_list_append mt_append (pv 2) (pa_cons (pe_tup (pa_cons (pe_call GO hr (by rfl) gO FO.kp bO .nil pass0 (pa_cons (pv 0) (pa_cons (pe_lst (pa_cons pe_int (pa_cons pe_int (pa_cons pe_int (pa_cons pe_int (pa_cons pe_int pa_nil)))))) pa_nil)))
          (pa_cons (pe_call GT hr (by rfl) gT FT.kp bT .nil pass0 (pa_cons (pv 0) (pa_cons pe_int pa_nil))) (pa_cons (pe_call GT hr (by rfl) gT FT.kp bT .nil pass0 (pa_cons (pv 0) (pa_cons pe_int pa_nil))) pa_nil)))) pa_nil)))))
      (pss_one (ps_ret (pe_sorts b rfl hr.units (by rfl) (by rfl) mS mE (pv 2) (by rfl))))), ?_⟩
    refine ⟨by show 0 ≤ sizeLine; exact Nat.zero_le _, fun l nl => ⟨.int (n : Nat), rfl, (n : Nat), rfl, by omega, by omega, ?_⟩⟩
    obtain ⟨ob, hb⟩ := hB.lst
    obtain ⟨lc, cs0, O0, hlc, lcb⟩ := hB.own
    have lb : l ≠ b := (ne_of_none hb nl).symm
    have ll : l ≠ lc := (ne_of_none hlc nl).symm
    have nH : ((n : Nat) : Int).toNat = n := by omega
    rw [nH]
    refine for_range (n := n) (fun i σ' H' => (∃ y, σ' = [some (.ref b), some (.int (n : Nat)), some (.ref l), y]) ∧ Chb b H H' ∧ Bag H' b ∧ ∃ L, H' l = some (.lst (rf L)) ∧ VA b H' L ∧ L.length = i) ⟨⟨none, rfl⟩, Chb.new nl, hB.same (new_same nl), [], upd_same, VA.nil, rfl⟩ (fun i σ' H1 hi hP => ?_) (fun σ' H1 hP => ?_)
    · obtain ⟨⟨y, rfl⟩, c1, B1, L, hl, hV, hL⟩ := hP
      refine ⟨.ref l, rfl, .inl ⟨rfl, _, .inl (.inl hl)⟩, .ref b, rfl, by show 5 ≤ sizeLine; decide, fun t nt => ?_⟩
      have tb : t ≠ b := by obtain ⟨o1, hb1⟩ := B1.lst; exact (ne_of_none hb1 nt).symm
      refine ⟨b, t, [.int 1, .int 2, .int 1, .int 0, .int 3], rfl, B1.same (new_same nt), upd_same, tb, by simp, by decide, fun H2 x c2 B2 hx => ?_⟩
      obtain ⟨a, ha, rfl⟩ : ∃ a : Int, (0 ≤ a ∧ a < 1000000) ∧ x = .int a := by
        simp only [List.mem_cons, List.not_mem_nil, or_false] at hx
        rcases hx with e | e | e | e | e <;> exact ⟨_, by decide, e⟩
      refine ⟨.ref b, rfl, b, 3, rfl, B2, by decide, by decide, fun H3 u c3 B3 u0 u1 => ⟨.ref b, rfl, b, 2, rfl, B3, by decide, by decide, fun H4 v c4 B4 v0 v1 => ⟨by show 3 ≤ sizeLine; decide, fun r nr => ?_⟩⟩⟩
      have c14 : Chb b H1 H4 := (((Chb.new nt).trans c2).trans c3).trans c4
      have hl4 := c14 _ _ lb hl
      obtain ⟨o4, hb4⟩ := B4.lst
      have rb : r ≠ b := (ne_of_none hb4 nr).symm
      have rl : l ≠ r := ne_of_none hl4 nr
      have c5 : Chb b H (upd H4 r (.tup [.int a, .int u, .int v])) := (c1.trans c14).trans (Chb.new nr)
      have hV5 : VA b (upd H4 r (.tup [.int a, .int u, .int v])) (L ++ [(r, [a, u, v])]) :=
        VA.app ((hV.chg c14).chg (Chb.new nr)) (VA.cons ⟨upd_same, vs3 ha ⟨u0, by omega⟩ ⟨v0, by omega⟩, rb⟩ VA.nil)
      have B5 : Bag (upd H4 r (.tup [.int a, .int u, .int v])) b := B4.same (new_same nr)
      have O5 := O0.chb c5
      have hl5 := new_ne (u := .tup [.int a, .int u, .int v]) hl4 nr
      generalize upd H4 r (.tup [.int a, .int u, .int v]) = H5 at c5 hV5 B5 O5 hl5 ⊢
      refine ⟨l, rf L, .ref r, rfl, rfl, hl5, by rw [List.length_map, sizeLine_eq]; omega, ⟨_, rfl⟩, c5.put nl lb, (B5.set O5 lb ll).1, L ++ [(r, [a, u, v])], ?_, fun q hq => ?_, by rw [List.length_append, hL]; rfl⟩
      · have e : rf (L ++ [(r, [a, u, v])]) = rf L ++ [.ref r] := List.map_append
        rw [e]
        exact upd_same
      · obtain ⟨z1, z2⟩ := hV5 q hq
        have : q.1 ≠ l := fun e => by rw [e, hl5] at z1; cases z1
        exact ⟨by rw [upd_ne this]; exact z1, z2⟩
    · obtain ⟨⟨y, rfl⟩, c1, B1, L, hl, hV, hL⟩ := hP
      obtain ⟨o1, hb1⟩ := B1.lst
      refine ⟨.ref l, rfl, l, L, o1, rfl, hl, hV, fun e => by rw [e] at hL; simp at hL; omega, by omega, hb1, fun H' p M s1 np hp hM hne hle => ?_⟩
      exact q H' p M (c1.trans (Chb.same s1)) (B1.same s1) hp (ne_of_none hb1 np).symm hM hne (by omega)
def spVersion : Sp := fun vs H Q _ => ∃ b : Addr, vs = [.ref b] ∧ Bag H b ∧ ∀ H' p ns, Chb b H H' → Bag H' b → H' p = some (.tup (ns.map V.int)) → Vs ns → p ≠ b → Q (.ref p) H'
theorem ok_version {f fO fT : Addr} {fd fdO fdT : FuncData} {k : Nat} (F : Fun K "_law_version" "_law_version" sVersion f fd) (FO : Fun K "_law_one" "_law_one" sOne fO fdO) (bO : Binds K fdO ["bag", "things"] []) (gO : mg "_law_one" = some (.ref fO))
    (FT : Fun K "_law_take" "_law_take" sTake fT fdT) (bT : Binds K fdT ["bag", "many"] []) (gT : mg "_law_take" = some (.ref fT)) (mI : mg "int" = none) (mL : mg "len" = none) (mR : mg "range" = none) (mU : mg "tuple" = none) :
    FnOk P w K mg base CX0 (k + 3) f fd ["bag"] spVersion := by
  have GO : FnOk P w K mg base CX0 (k + 2) fO fdO ["bag", "things"] spOne := ok_one FO FT bT gT mI mL
  refine F.ok scVersion (fun vs H Q E h => ?_) (fun cdv A outer s H vs Q E hr h => ?_)
  · obtain ⟨b, rfl, _⟩ := h
    rfl
  · obtain ⟨b, rfl, hB, q⟩ := h
    refine ⟨_, pss_cons (ps_set (i := 1) scVersion.nd rfl (.inr rfl) (pe_call GO hr (by rfl) gO FO.kp bO .nil pass0 (pa_cons (pv 0) (pa_cons (pe_lst (pa_cons (pe_lst (pa_cons pe_int (pa_cons pe_int (pa_cons pe_int pa_nil)))) (pa_cons (pe_lst (pa_cons pe_int (pa_cons pe_int pa_nil))) (pa_cons (pe_lst (pa_cons pe_int (pa_cons pe_int (pa_cons pe_int pa_nil))))
        (pa_cons (pe_lst (pa_cons pe_int (pa_cons pe_int (pa_cons pe_int pa_nil)))) pa_nil))))) pa_nil))))
      (pss_one (ps_ret (pe_callTy call_tuple_of (by rfl) mU (by decide +kernel) (pa_cons (pe_lc (own := [("part", 2)]) (g := gName 2) rfl scVersion.nd (pi_range1 (by rfl) mR (pa_cons pe_int pa_nil)) (blkOk_by (N := ["bag", "menu", "part"]) (sc := defScope sVersion) (by decide +kernel))
        (fun _ _ _ _ _ => pg_name (i := 2) scVersion.nd rfl (Or.inl rfl)) (fun _ _ _ _ _ => pts_nil) (fun _ _ _ _ _ => pe_call GO hr (by rfl) gO FO.kp bO .nil pass0 (pa_cons (pv 0) (pa_cons (pv 1) pa_nil)))) pa_nil)))), ?_⟩
    obtain ⟨ob, hb⟩ := hB.lst
    refine ⟨.ref b, rfl, by show 3 ≤ sizeLine; decide, fun p1 n1 => ⟨by show 2 ≤ sizeLine; decide, fun p2 n2 => ⟨by show 3 ≤ sizeLine; decide, fun p3 n3 => ⟨by show 3 ≤ sizeLine; decide, fun p4 n4 => ⟨by show 4 ≤ sizeLine; decide, fun p5 n5 => ?_⟩⟩⟩⟩⟩
    have b1 := new_ne (u := .lst [.int 0, .int 1, .int 2]) hb n1
    have b2 := new_ne (u := .lst [.int 0, .int 1]) b1 n2
    have b3 := new_ne (u := .lst [.int 1, .int 2, .int 10]) b2 n3
    have b4 := new_ne (u := .lst [.int 0, .int 999999, .int 1]) b3 n4
    have small : ∀ x : V, ∀ xs : List V, x ∈ xs → xs ∈ [[V.int 0, .int 1, .int 2], [.int 0, .int 1], [.int 1, .int 2, .int 10], [.int 0, .int 999999, .int 1]] → ∃ n : Int, x = .int n ∧ 0 ≤ n ∧ n < 1000000 := by
      intro x xs hx hxs
      simp only [List.mem_cons, List.not_mem_nil, or_false] at hxs
      rcases hxs with e | e | e | e <;> subst e <;> simp only [List.mem_cons, List.not_mem_nil, or_false] at hx
      · rcases hx with e | e | e <;> exact ⟨_, e, by decide, by decide⟩
      · rcases hx with e | e <;> exact ⟨_, e, by decide, by decide⟩
      · rcases hx with e | e | e <;> exact ⟨_, e, by decide, by decide⟩
      · rcases hx with e | e | e <;> exact ⟨_, e, by decide, by decide⟩
    have q1 : upd (upd (upd (upd H p1 (.lst [.int 0, .int 1, .int 2])) p2 (.lst [.int 0, .int 1])) p3 (.lst [.int 1, .int 2, .int 10])) p4 (.lst [.int 0, .int 999999, .int 1]) p1 = some (.lst [.int 0, .int 1, .int 2]) := new_ne (new_ne (new_ne upd_same n2) n3) n4
    have q2 : upd (upd (upd (upd H p1 (.lst [.int 0, .int 1, .int 2])) p2 (.lst [.int 0, .int 1])) p3 (.lst [.int 1, .int 2, .int 10])) p4 (.lst [.int 0, .int 999999, .int 1]) p2 = some (.lst [.int 0, .int 1]) := new_ne (new_ne upd_same n3) n4
    have q3 : upd (upd (upd (upd H p1 (.lst [.int 0, .int 1, .int 2])) p2 (.lst [.int 0, .int 1])) p3 (.lst [.int 1, .int 2, .int 10])) p4 (.lst [.int 0, .int 999999, .int 1]) p3 = some (.lst [.int 1, .int 2, .int 10]) := new_ne upd_same n4
    have q4 : upd (upd (upd (upd H p1 (.lst [.int 0, .int 1, .int 2])) p2 (.lst [.int 0, .int 1])) p3 (.lst [.int 1, .int 2, .int 10])) p4 (.lst [.int 0, .int 999999, .int 1]) p4 = some (.lst [.int 0, .int 999999, .int 1]) := upd_same
    have s4 : Same H (upd (upd (upd (upd H p1 (.lst [.int 0, .int 1, .int 2])) p2 (.lst [.int 0, .int 1])) p3 (.lst [.int 1, .int 2, .int 10])) p4 (.lst [.int 0, .int 999999, .int 1])) := (((new_same n1).trans (new_same n2)).trans (new_same n3)).trans (new_same n4)
    generalize upd (upd (upd (upd H p1 (.lst [.int 0, .int 1, .int 2])) p2 (.lst [.int 0, .int 1])) p3 (.lst [.int 1, .int 2, .int 10])) p4 (.lst [.int 0, .int 999999, .int 1]) = H4 at n5 q1 q2 q3 q4 s4 b4 ⊢
    have ne : ∀ p xs, H4 p = some (.lst xs) → H p = none → p ≠ b := fun p xs _ hn => (ne_of_none hb hn).symm
    have m1 : p1 ≠ b := (ne_of_none hb n1).symm
    have m2 : p2 ≠ b := (ne_of_none b1 n2).symm
    have m3 : p3 ≠ b := (ne_of_none b2 n3).symm
    have m4 : p4 ≠ b := (ne_of_none b3 n4).symm
    have B5 : Bag (upd H4 p5 (.lst [.ref p1, .ref p2, .ref p3, .ref p4])) b := (hB.same s4).same (new_same n5)
    have cH : Chb b H (upd H4 p5 (.lst [.ref p1, .ref p2, .ref p3, .ref p4])) := (Chb.same s4).trans (Chb.new n5)
    refine ⟨b, p5, _, rfl, B5, upd_same, (ne_of_none b4 n5).symm, by simp, by show 4 ≤ 1000; decide, fun H6 x c6 B6 hx => ?_⟩
    obtain ⟨mn, xs, rfl, hmb, hm, hxs⟩ : ∃ mn xs, x = .ref mn ∧ mn ≠ b ∧ H6 mn = some (.lst xs) ∧ xs ∈ [[V.int 0, .int 1, .int 2], [.int 0, .int 1], [.int 1, .int 2, .int 10], [.int 0, .int 999999, .int 1]] := by
      simp only [List.mem_cons, List.not_mem_nil, or_false] at hx
      rcases hx with e | e | e | e
      · exact ⟨p1, _, e, m1, c6 _ _ m1 (new_ne q1 n5), by simp⟩
      · exact ⟨p2, _, e, m2, c6 _ _ m2 (new_ne q2 n5), by simp⟩
      · exact ⟨p3, _, e, m3, c6 _ _ m3 (new_ne q3 n5), by simp⟩
      · exact ⟨p4, _, e, m4, c6 _ _ m4 (new_ne q4 n5), by simp⟩
    have hxl : xs ≠ [] ∧ xs.length ≤ 1000 := by
      simp only [List.mem_cons, List.not_mem_nil, or_false] at hxs
      rcases hxs with e | e | e | e <;> subst e <;> exact ⟨by simp, by decide⟩
    obtain ⟨o6, hb6⟩ := B6.lst
    obtain ⟨lc, cs0, O6, hlc, lcb⟩ := B6.own
    refine ⟨3, rfl, by decide, by decide, fun Dl nD => ?_⟩
    have db : Dl ≠ b := (ne_of_none hb6 nD).symm
    have dl : Dl ≠ lc := (ne_of_none hlc nD).symm
    refine lc_range (lo := 0) (n := 3) (fun j Hc => Chb b H6 Hc ∧ Bag Hc b ∧ ∃ ns : List Int, Hc Dl = some (.lst (ns.map V.int)) ∧ ns.length = j ∧ ∀ n ∈ ns, 0 ≤ n ∧ n < 1000000) ⟨Chb.new nD, B6.same (new_same nD), [], upd_same, rfl, fun n hn => by cases hn⟩ (fun j Hc hj hP => ?_) (fun Hc hP => ?_)
    · obtain ⟨c7, B7, ns, d1, d2, d3⟩ := hP
      refine ⟨rfl, .ref b, rfl, .ref mn, rfl, b, mn, xs, rfl, B7, c7 _ _ hmb hm, hmb, hxl.1, hxl.2, fun H8 y c8 B8 hy => ?_⟩
      obtain ⟨n, rfl, n0, n1⟩ := small y xs hy hxs
      have d8 := c8 _ _ db d1
      have c68 := c7.trans c8
      refine ⟨ns.map V.int, d8, by rw [List.length_map, sizeLine_eq]; omega, c68.put nD db, (B8.set (O6.chb c68) db dl).1, ns ++ [n], ?_, by rw [List.length_append, d2]; rfl, fun m hm => ?_⟩
      · rw [List.map_append]
        exact upd_same
      · rcases List.mem_append.mp hm with e | e
        · exact d3 m e
        · rw [List.mem_singleton] at e
          subst e
          exact ⟨n0, n1⟩
    · obtain ⟨c7, B7, ns, d1, d2, d3⟩ := hP
      obtain ⟨o7, hb7⟩ := B7.lst
      refine ⟨Dl, ns.map V.int, rfl, .inl ⟨.inl (.inl d1), fun r nr => ?_⟩⟩
      exact q _ r ns (((cH.trans c6).trans c7).trans (Chb.new nr)) (B7.same (new_same nr)) upd_same ⟨d2, d3⟩ (ne_of_none hb7 nr).symm
theorem cut6 (xs : List V) : cutV xs none (some 6) = xs.take 6 := by
  unfold cutV HT.sIx
  simp
def spFar : Sp := fun vs H Q _ => ∃ b : Addr, vs = [.ref b] ∧ Bag H b ∧ ∀ H' p L, Chb b H H' → Bag H' b → H' p = some (.lst (rf L)) → p ≠ b → VA b H' L → L ≠ [] → L.length ≤ 6 → Q (.ref p) H'
theorem ok_far {f fV fR fO fT : Addr} {fd fdV fdR fdO fdT : FuncData} {k : Nat} (F : Fun K "_law_far_versions" "_law_far_versions" sFar f fd) (FV : Fun K "_law_versions" "_law_versions" sVersions fV fdV) (bV : Binds K fdV ["bag", "many"] []) (gV : mg "_law_versions" = some (.ref fV))
    (FR : Fun K "_law_version" "_law_version" sVersion fR fdR) (bR : Binds K fdR ["bag"] []) (gR : mg "_law_version" = some (.ref fR))
    (FO : Fun K "_law_one" "_law_one" sOne fO fdO) (bO : Binds K fdO ["bag", "things"] []) (gO : mg "_law_one" = some (.ref fO))
    (FT : Fun K "_law_take" "_law_take" sTake fT fdT) (bT : Binds K fdT ["bag", "many"] []) (gT : mg "_law_take" = some (.ref fT)) (mI : mg "int" = none) (mL : mg "len" = none) (mR : mg "range" = none) (mU : mg "tuple" = none) (mS : mg "sorted" = none) (mE : mg "set" = none) :
    FnOk P w K mg base CX0 (k + 4) f fd ["bag"] spFar := by
  have GO : FnOk P w K mg base CX0 (k + 3) fO fdO ["bag", "things"] spOne := ok_one FO FT bT gT mI mL
  have GT : FnOk P w K mg base CX0 (k + 3) fT fdT ["bag", "many"] spTake := ok_take FT mI
  have GV : FnOk P w K mg base CX0 (k + 3) fV fdV ["bag", "many"] spVersions := ok_versions FV FO bO gO FT bT gT mI mL mR mS mE
  have GR : FnOk P w K mg base CX0 (k + 3) fR fdR ["bag"] spVersion := ok_version FR FO bO gO FT bT gT mI mL mR mU
  refine F.ok scFar (fun vs H Q E h => ?_) (fun cdv A outer s H vs Q E hr h => ?_)
  · obtain ⟨b, rfl, _⟩ := h
    rfl
  · obtain ⟨b, rfl, hB, q⟩ := h
    refine ⟨_, C8.pss_cut (ps_set (i := 1) scFar.nd rfl (.inl rfl) (pe_op op_cat (pe_call GV hr (by rfl) gV FV.kp bV .nil pass0 (pa_cons (pv 0) (pa_cons (pe_call GO hr (by rfl) gO FO.kp bO .nil pass0 (pa_cons (pv 0) (pa_cons (pe_lst (pa_cons pe_int (pa_cons pe_int (pa_cons pe_int pa_nil)))) pa_nil))) pa_nil)))
        (pe_lc (own := [("turn", 4)]) (g := gName 4) rfl scFar.nd (pi_range1 (by rfl) mR (pa_cons (pe_call GT hr (by rfl) gT FT.kp bT .nil pass0 (pa_cons (pv 0) (pa_cons pe_int pa_nil))) pa_nil)) (blkOk_by (N := ["bag", "found", "last", "some", "turn"]) (sc := defScope sFar) (by decide +kernel))
          (fun _ _ _ _ _ => pg_name (i := 4) scFar.nd rfl (Or.inl rfl)) (fun _ _ _ _ _ => pts_nil) (fun _ _ _ _ _ => pe_call GR hr (by rfl) gR FR.kp bR .nil pass0 (pa_cons (pv 0) pa_nil)))))
      (pss_cons (ps_set (i := 2) scFar.nd rfl (.inl rfl) (pe_tup (pa_cons pe_int (pa_cons pe_int (pa_cons pe_int pa_nil)))))
      (pss_cons (ps_set (i := 3) scFar.nd rfl (.inl rfl) (pe_lst (pa_cons (pe_lst pa_nil) (pa_cons (pe_lst (pa_cons (pv 2) pa_nil)) (pa_cons (pe_lst (pa_cons (pe_tup (pa_cons pe_int (pa_cons pe_int (pa_cons pe_int pa_nil)))) pa_nil)) (pa_cons (pe_lst (pa_cons (pe_tup (pa_cons pe_int (pa_cons pe_int (pa_cons pe_int pa_nil)))) pa_nil))
          (pa_cons (pe_lst (pa_cons (pe_tup (pa_cons pe_int (pa_cons pe_int (pa_cons pe_int pa_nil)))) (pa_cons (pv 2) pa_nil))) pa_nil)))))))
      (pss_one (ps_ret (pe_slice sl_list (pe_sorts b rfl hr.units (by rfl) (by rfl) mS mE (pe_op op_cat (pv 1) (pe_call GO hr (by rfl) gO FO.kp bO .nil pass0 (pa_cons (pv 0) (pa_cons (pv 3) pa_nil)))) (by rfl)) po_none (po_some pe_int)))))), ?_⟩
    obtain ⟨ob, hb⟩ := hB.lst
    refine ⟨fun σ' H' => ∃ p L, σ' = [some (.ref b), some (.ref p), none, none, none] ∧ Chb b H H' ∧ Bag H' b ∧ H' p = some (.lst (rf L)) ∧ p ≠ b ∧ VA b H' L ∧ L ≠ [] ∧ L.length ≤ 10, ?_, ?_⟩
    · refine ⟨.ref b, rfl, .ref b, rfl, by show 3 ≤ sizeLine; decide, fun t nt => ?_⟩
      refine ⟨b, t, [.int 3, .int 1, .int 5], rfl, hB.same (new_same nt), upd_same, (ne_of_none hb nt).symm, by simp, by decide, fun H2 x c2 B2 hx => ?_⟩
      obtain ⟨a, ha, rfl⟩ : ∃ a : Nat, (1 ≤ a ∧ a ≤ 5) ∧ x = .int (a : Nat) := by
        simp only [List.mem_cons, List.not_mem_nil, or_false] at hx
        rcases hx with e | e | e
        · exact ⟨3, by decide, e⟩
        · exact ⟨1, by decide, e⟩
        · exact ⟨5, by decide, e⟩
      refine ⟨b, a, rfl, B2, ha.1, ha.2, fun H3 p L c3 B3 hp pb hV hne hl => ?_⟩
      refine ⟨.ref b, rfl, b, 3, rfl, B3, by decide, by decide, fun H4 m c4 B4 m0 m1 => ⟨m, rfl, by omega, by omega, fun Dl nD => ?_⟩⟩
      obtain ⟨o4, hb4⟩ := B4.lst
      obtain ⟨lc, cs0, O4, hlc, lcb⟩ := B4.own
      have db : Dl ≠ b := (ne_of_none hb4 nD).symm
      have dl : Dl ≠ lc := (ne_of_none hlc nD).symm
      refine lc_range (lo := 0) (n := m.toNat) (fun j Hc => Chb b H4 Hc ∧ Bag Hc b ∧ ∃ M, Hc Dl = some (.lst (rf M)) ∧ VA b Hc M ∧ M.length = j) ⟨Chb.new nD, B4.same (new_same nD), [], upd_same, VA.nil, rfl⟩ (fun j Hc hj hP => ?_) (fun Hc hP => ?_)
      · obtain ⟨c7, B7, M, d1, d2, d3⟩ := hP
        refine ⟨rfl, .ref b, rfl, b, rfl, B7, fun H8 r ns c8 B8 hr8 hns rb => ?_⟩
        have d8 := c8 _ _ db d1
        have c48 := c7.trans c8
        refine ⟨rf M, d8, by rw [List.length_map, sizeLine_eq]; omega, c48.put nD db, (B8.set (O4.chb c48) db dl).1, M ++ [(r, ns)], ?_, fun q hq => ?_, by rw [List.length_append, d3]; rfl⟩
        · have e : rf (M ++ [(r, ns)]) = rf M ++ [.ref r] := List.map_append
          rw [e]
          exact upd_same
        · obtain ⟨z1, z2⟩ := (VA.app (d2.chg c8) (VA.cons (q := (r, ns)) ⟨hr8, hns, rb⟩ VA.nil)) q hq
          have : q.1 ≠ Dl := fun e => by rw [e, d8] at z1; cases z1
          exact ⟨by rw [upd_ne this]; exact z1, z2⟩
      · obtain ⟨c7, B7, M, d1, d2, d3⟩ := hP
        have c37 := c4.trans c7
        refine ⟨p, Dl, rf L, rf M, rfl, rfl, c37 _ _ pb hp, d1, by rw [List.length_map, List.length_map, sizeLine_eq]; omega, fun r nr => ?_⟩
        obtain ⟨o7, hb7⟩ := B7.lst
        refine ⟨r, L ++ M, rfl, (((((Chb.new nt).trans c2).trans c3).trans c37)).trans (Chb.new nr), B7.same (new_same nr), ?_, (ne_of_none hb7 nr).symm, (VA.app (hV.chg c37) d2).chg (Chb.new nr), fun e => hne (List.append_eq_nil_iff.mp e).1, by rw [List.length_append]; omega⟩
        have e : rf (L ++ M) = rf L ++ rf M := List.map_append
        rw [e]
        exact upd_same
    · rintro σ' H1 ⟨p, L, rfl, c1, B1, hp, pb, hV, hne, hl⟩
      obtain ⟨ob1, hb1⟩ := B1.lst
      refine ⟨by show 3 ≤ sizeLine; decide, fun t2 n2 => ?_⟩
      have e_t2 : upd H1 t2 (.tup [.int 999999, .int 999999, .int 999999]) t2 = some (.tup [.int 999999, .int 999999, .int 999999]) := upd_same
      have s_t2 : Same H1 (upd H1 t2 (.tup [.int 999999, .int 999999, .int 999999])) := new_same n2
      have b_t2 : t2 ≠ b := (ne_of_none (hb1) n2).symm
      generalize upd H1 t2 (.tup [.int 999999, .int 999999, .int 999999]) = G0 at e_t2 s_t2 ⊢
      have hbG0 := s_t2 _ _ hb1
      refine ⟨by show 0 ≤ sizeLine; exact Nat.zero_le _, fun q0 m0 => ?_⟩
      have e_q0 : upd G0 q0 (.lst []) q0 = some (.lst []) := upd_same
      have s_q0 : Same G0 (upd G0 q0 (.lst [])) := new_same m0
      have b_q0 : q0 ≠ b := (ne_of_none (hbG0) m0).symm
      generalize upd G0 q0 (.lst []) = G1 at e_q0 s_q0 ⊢
      have hbG1 := s_q0 _ _ hbG0
      refine ⟨.ref t2, rfl, by show 1 ≤ sizeLine; decide, fun q1 m1 => ?_⟩
      have e_q1 : upd G1 q1 (.lst [.ref t2]) q1 = some (.lst [.ref t2]) := upd_same
      have s_q1 : Same G1 (upd G1 q1 (.lst [.ref t2])) := new_same m1
      have b_q1 : q1 ≠ b := (ne_of_none (hbG1) m1).symm
      generalize upd G1 q1 (.lst [.ref t2]) = G2 at e_q1 s_q1 ⊢
      have hbG2 := s_q1 _ _ hbG1
      refine ⟨by show 3 ≤ sizeLine; decide, fun t3 n3 => ?_⟩
      have e_t3 : upd G2 t3 (.tup [.int 1, .int 999999, .int 999999]) t3 = some (.tup [.int 1, .int 999999, .int 999999]) := upd_same
      have s_t3 : Same G2 (upd G2 t3 (.tup [.int 1, .int 999999, .int 999999])) := new_same n3
      have b_t3 : t3 ≠ b := (ne_of_none (hbG2) n3).symm
      generalize upd G2 t3 (.tup [.int 1, .int 999999, .int 999999]) = G3 at e_t3 s_t3 ⊢
      have hbG3 := s_t3 _ _ hbG2
      refine ⟨by show 1 ≤ sizeLine; decide, fun q3 m3 => ?_⟩
      have e_q3 : upd G3 q3 (.lst [.ref t3]) q3 = some (.lst [.ref t3]) := upd_same
      have s_q3 : Same G3 (upd G3 q3 (.lst [.ref t3])) := new_same m3
      have b_q3 : q3 ≠ b := (ne_of_none (hbG3) m3).symm
      generalize upd G3 q3 (.lst [.ref t3]) = G4 at e_q3 s_q3 ⊢
      have hbG4 := s_q3 _ _ hbG3
      refine ⟨by show 3 ≤ sizeLine; decide, fun t4 n4 => ?_⟩
      have e_t4 : upd G4 t4 (.tup [.int 0, .int 0, .int 0]) t4 = some (.tup [.int 0, .int 0, .int 0]) := upd_same
      have s_t4 : Same G4 (upd G4 t4 (.tup [.int 0, .int 0, .int 0])) := new_same n4
      have b_t4 : t4 ≠ b := (ne_of_none (hbG4) n4).symm
      generalize upd G4 t4 (.tup [.int 0, .int 0, .int 0]) = G5 at e_t4 s_t4 ⊢
      have hbG5 := s_t4 _ _ hbG4
      refine ⟨by show 1 ≤ sizeLine; decide, fun q4 m4 => ?_⟩
      have e_q4 : upd G5 q4 (.lst [.ref t4]) q4 = some (.lst [.ref t4]) := upd_same
      have s_q4 : Same G5 (upd G5 q4 (.lst [.ref t4])) := new_same m4
      have b_q4 : q4 ≠ b := (ne_of_none (hbG5) m4).symm
      generalize upd G5 q4 (.lst [.ref t4]) = G6 at e_q4 s_q4 ⊢
      have hbG6 := s_q4 _ _ hbG5
      refine ⟨by show 3 ≤ sizeLine; decide, fun t5 n5 => ?_⟩
      have e_t5 : upd G6 t5 (.tup [.int 999999, .int 999999, .int 999998]) t5 = some (.tup [.int 999999, .int 999999, .int 999998]) := upd_same
      have s_t5 : Same G6 (upd G6 t5 (.tup [.int 999999, .int 999999, .int 999998])) := new_same n5
      have b_t5 : t5 ≠ b := (ne_of_none (hbG6) n5).symm
      generalize upd G6 t5 (.tup [.int 999999, .int 999999, .int 999998]) = G7 at e_t5 s_t5 ⊢
      have hbG7 := s_t5 _ _ hbG6
      refine ⟨.ref t2, rfl, by show 2 ≤ sizeLine; decide, fun q5 m5 => ?_⟩
      have e_q5 : upd G7 q5 (.lst [.ref t5, .ref t2]) q5 = some (.lst [.ref t5, .ref t2]) := upd_same
      have s_q5 : Same G7 (upd G7 q5 (.lst [.ref t5, .ref t2])) := new_same m5
      have b_q5 : q5 ≠ b := (ne_of_none (hbG7) m5).symm
      generalize upd G7 q5 (.lst [.ref t5, .ref t2]) = G8 at e_q5 s_q5 ⊢
      have hbG8 := s_q5 _ _ hbG7
      refine ⟨by show 5 ≤ sizeLine; decide, fun r nr => ?_⟩
      have e_r : upd G8 r (.lst [.ref q0, .ref q1, .ref q3, .ref q4, .ref q5]) r = some (.lst [.ref q0, .ref q1, .ref q3, .ref q4, .ref q5]) := upd_same
      have s_r : Same G8 (upd G8 r (.lst [.ref q0, .ref q1, .ref q3, .ref q4, .ref q5])) := new_same nr
      have b_r : r ≠ b := (ne_of_none (hbG8) nr).symm
      generalize upd G8 r (.lst [.ref q0, .ref q1, .ref q3, .ref q4, .ref q5]) = G9 at e_r s_r ⊢
      have hbG9 := s_r _ _ hbG8
      have f_t2 := s_r _ _ (s_q5 _ _ (s_t5 _ _ (s_q4 _ _ (s_t4 _ _ (s_q3 _ _ (s_t3 _ _ (s_q1 _ _ (s_q0 _ _ (e_t2)))))))))
      have f_q0 := s_r _ _ (s_q5 _ _ (s_t5 _ _ (s_q4 _ _ (s_t4 _ _ (s_q3 _ _ (s_t3 _ _ (s_q1 _ _ (e_q0))))))))
      have f_q1 := s_r _ _ (s_q5 _ _ (s_t5 _ _ (s_q4 _ _ (s_t4 _ _ (s_q3 _ _ (s_t3 _ _ (e_q1)))))))
      have f_t3 := s_r _ _ (s_q5 _ _ (s_t5 _ _ (s_q4 _ _ (s_t4 _ _ (s_q3 _ _ (e_t3))))))
      have f_q3 := s_r _ _ (s_q5 _ _ (s_t5 _ _ (s_q4 _ _ (s_t4 _ _ (e_q3)))))
      have f_t4 := s_r _ _ (s_q5 _ _ (s_t5 _ _ (s_q4 _ _ (e_t4))))
      have f_q4 := s_r _ _ (s_q5 _ _ (s_t5 _ _ (e_q4)))
      have f_t5 := s_r _ _ (s_q5 _ _ (e_t5))
      have f_q5 := s_r _ _ (e_q5)
      have f_r := e_r
      have S : Same H1 G9 := s_t2.trans (s_q0.trans (s_q1.trans (s_t3.trans (s_q3.trans (s_t4.trans (s_q4.trans (s_t5.trans (s_q5.trans s_r))))))))
      have v2 : Vs [999999, 999999, 999999] := vs3 (by decide) (by decide) (by decide)
      have v3 : Vs [1, 999999, 999999] := vs3 (by decide) (by decide) (by decide)
      have v4 : Vs [0, 0, 0] := vs3 (by decide) (by decide) (by decide)
      have v5 : Vs [999999, 999999, 999998] := vs3 (by decide) (by decide) (by decide)
      have w2 : VA b G9 [(t2, [999999, 999999, 999999])] := VA.cons ⟨f_t2, v2, b_t2⟩ VA.nil
      have w3 : VA b G9 [(t3, [1, 999999, 999999])] := VA.cons ⟨f_t3, v3, b_t3⟩ VA.nil
      have w4 : VA b G9 [(t4, [0, 0, 0])] := VA.cons ⟨f_t4, v4, b_t4⟩ VA.nil
      have w5 : VA b G9 [(t5, [999999, 999999, 999998]), (t2, [999999, 999999, 999999])] := VA.cons ⟨f_t5, v5, b_t5⟩ w2
      refine ⟨.ref p, rfl, .ref b, rfl, .ref r, rfl, b, r, _, rfl, B1.same S, f_r, b_r, by simp, by show 5 ≤ 1000; decide, fun H8 x c8 B8 hx => ?_⟩
      obtain ⟨qi, Li, rfl, hqi, hVi, hli⟩ : ∃ qi Li, x = .ref qi ∧ H8 qi = some (.lst (rf Li)) ∧ VA b H8 Li ∧ Li.length ≤ 2 := by
        simp only [List.mem_cons, List.not_mem_nil, or_false] at hx
        rcases hx with e | e | e | e | e
        · exact ⟨q0, [], e, c8 _ _ b_q0 f_q0, VA.nil, by decide⟩
        · exact ⟨q1, [(t2, [999999, 999999, 999999])], e, c8 _ _ b_q1 f_q1, w2.chg c8, by simp⟩
        · exact ⟨q3, [(t3, [1, 999999, 999999])], e, c8 _ _ b_q3 f_q3, w3.chg c8, by simp⟩
        · exact ⟨q4, [(t4, [0, 0, 0])], e, c8 _ _ b_q4 f_q4, w4.chg c8, by simp⟩
        · exact ⟨q5, [(t5, [999999, 999999, 999998]), (t2, [999999, 999999, 999999])], e, c8 _ _ b_q5 f_q5, w5.chg c8, by simp⟩
      have cS : Chb b H1 H8 := (Chb.same S).trans c8
      refine ⟨p, qi, rf L, rf Li, rfl, rfl, cS _ _ pb hp, hqi, by rw [List.length_map, List.length_map, sizeLine_eq]; omega, fun d nd => ?_⟩
      obtain ⟨o8, hb8⟩ := B8.lst
      have e : rf (L ++ Li) = rf L ++ rf Li := List.map_append
      have hd : upd H8 d (.lst (rf L ++ rf Li)) d = some (.lst (rf (L ++ Li))) := by rw [e]; exact upd_same
      refine ⟨d, L ++ Li, o8, rfl, hd, (VA.app (hV.chg cS) hVi).chg (Chb.new nd), fun z => hne (List.append_eq_nil_iff.mp z).1, by rw [List.length_append]; omega, new_ne hb8 nd, fun H9 g M s9 ng hg hM hMn hle => ?_⟩
      refine ⟨6, rfl, g, rf M, rfl, .inl (.inl hg), fun u nu => ?_⟩
      have hb9 := s9 _ _ (new_ne (u := .lst (rf L ++ rf Li)) hb8 nd)
      have c9 : Chb b H1 H9 := (cS.trans (Chb.new nd)).trans (Chb.same s9)
      refine q _ u (M.take 6) ((c1.trans c9).trans (Chb.new nu)) (((B8.same (new_same nd)).same s9).same (new_same nu)) ?_ (ne_of_none hb9 nu).symm (fun z hz => (hM.chg (Chb.new nu)) z (List.mem_of_mem_take hz)) ?_ (by rw [List.length_take]; omega)
      · rw [upd_same, cut6, rf, rf, List.map_take]
      · cases M with
        | nil => exact absurd rfl hMn
        | cons m M => simp
end
end V1
/-! Two values alike. -/
namespace V1
open PySem PySem.Spec PyProof.Rows L2 TL
abbrev sAlike : Stmt := topS 30
abbrev sJudged : Stmt := topS 36
theorem scAlike : FnScope ["found", "due"] ["found", "due"] (defScope sAlike) := ⟨rfl, rfl, rfl, by decide +kernel, rfl, by decide +kernel, by decide +kernel⟩
theorem scJudged : FnScope ["bag", "version", "names", "things", "thing", "shown", "due"] ["bag", "version"] (defScope sJudged) := ⟨rfl, rfl, rfl, by decide +kernel, rfl, by decide +kernel, by decide +kernel⟩
/-- not more items than it costs -/
theorem Shw.many {H : Hp} {vs : List V} {d : Nat} {as : List Addr} {ts : List PySem.Str} {c : Nat} (h : Shw H vs d as ts c) : 10 * vs.length ≤ c := by
  induction h with
  | nil => exact Nat.le_refl _
  | non r ih => rw [List.length_cons]; omega
  | bl b r ih => rw [List.length_cons]; omega
  | int i hi r ih => rw [List.length_cons]; omega
  | str x hx hc r ih => rw [List.length_cons]; omega
  | lst h q hn r i1 i2 => rw [List.length_cons]; omega
  | tup h q hn r i1 i2 => rw [List.length_cons]; omega
  | dic ks h hk q hn r i1 i2 => rw [List.length_cons]; omega
theorem Shw.tupLen {H : Hp} {a : Addr} {xs : List V} {d : Nat} {as : List Addr} {t : PySem.Str} {c : Nat} (h : Shw H [.ref a] d as [t] c) (ha : H a = some (.tup xs)) : 10 * xs.length ≤ c := by
  generalize hv : [V.ref a] = vs at h
  cases h with
  | non r => cases hv
  | bl b r => cases hv
  | int i hi r => cases hv
  | str x hx hc r => cases hv
  | lst h q hn r => cases hv; rw [h] at ha; cases ha
  | tup h q hn r =>
    cases hv
    rw [h] at ha
    cases ha
    have := q.many
    omega
  | dic ks h hk q hn r => cases hv; rw [h] at ha; cases ha
section
variable {P : Program} {w : World} {K : PySem.W.Frag} {mg : PySem.Str → Option Value} {base : Heap}
def spAlike (K : PySem.W.Frag) : Sp := fun vs H Q _ => ∃ (x y : V) (d : PyData) (n : Nat) (as bs : List Addr) (t : PySem.Str) (c e : Nat), vs = [x, y] ∧ Dp K H x d ∧ Dp K H y d ∧ SeqAt.shaped d = true ∧
  Shw H [x] n as [t] c ∧ Shw H [y] n bs [t] e ∧ n ≤ 60 ∧ c ≤ 16000000 ∧ e ≤ 16000000 ∧ Q (.bl true) H
theorem ok_alike {f : Addr} {fd : FuncData} {k : Nat} (F : Fun K "_law_alike" "_law_alike" sAlike f fd) (mR : mg "repr" = none) : Ok0 P w K mg base (k + 1) f fd ["found", "due"] (spAlike K) := by
  refine Ok0.mk_of F scAlike (fun vs H Q E h => ?_) (fun cdv A outer s H vs Q E hgd hr h => ?_)
  · obtain ⟨x, y, d, n, as, bs, t, c, e, rfl, _⟩ := h
    rfl
  · obtain ⟨x, y, d, n, as, bs, t, c, e, rfl, dx, dy, sh, s1, s2, hn, hc, he, q⟩ := h
    refine ⟨_, pss_one (ps_ret (pe_and (pe_cmpR (op_eqD hr.units) (pv 0) (pv 1) (nomark _)) (pe_one (pe_cmpR op_eq (pe_callB (call_reprV hgd hr.units) (by rfl) mR (by decide +kernel) (pa_cons (pv 0) pa_nil)) (pe_callB (call_reprV hgd hr.units) (by rfl) mR (by decide +kernel) (pa_cons (pv 1) pa_nil)) (nomark _))))), ?_⟩
    have er : PyData.eqv d d = true := SeqAt.eqv_refl d (SeqAt.canLay_of_shaped sh)
    refine ⟨_, rfl, _, rfl, d, d, dx, dy, sh, sh, _, rfl, ?_⟩
    rw [er]
    refine ⟨_, rfl, x, n, as, t, c, rfl, s1, hn, hc, _, rfl, _, n, bs, t, e, rfl, s2, hn, he, rfl, ?_⟩
    rw [show decide (V.str t = V.str t) = true from decide_eq_true rfl]
    exact q
/-- three truths -/
theorem bl3_dp {K : PySem.W.Frag} {H : Hp} {p : Addr} {a b c : Bool} (h : H p = some (.lst [.bl a, .bl b, .bl c])) : Dp K H (.ref p) (.list [.bool a, .bool b, .bool c]) := .lst (.inl (.inl h)) (.cons (.bl a) (.cons (.bl b) (.cons (.bl c) .nil)))
theorem bl3_shaped : ∀ a b c : Bool, SeqAt.shaped (.list [.bool a, .bool b, .bool c]) = true := by decide
def trueT (a : Bool) : PySem.Str := if a then "True" else "False"
theorem bl3_shw {H : Hp} {p : Addr} {a b c : Bool} (h : H p = some (.lst [.bl a, .bl b, .bl c])) : Shw H [.ref p] 1 ([p] ++ []) [listText [((if a then "True" else "False" : String) : PySem.Str), ((if b then "True" else "False" : String) : PySem.Str), ((if c then "True" else "False" : String) : PySem.Str)]] (10 + (10 + (10 + (10 + 0))) + 0) :=
  .lst (d := 0) (bs := []) h (.bl a (.bl b (.bl c .nil))) (by simp) .nil
end
end V1
/-! Whether values are judged. -/
namespace V1
open PySem PySem.Spec PyProof.Rows L2 TL
section
variable {X : Cx}
/-- a text some times over -/
theorem op_mulS : OpR X (binaryOp .Mult) (fun x y H Q => ∃ (z : PySem.Str) (n : Int), x = .str z ∧ y = .int n ∧ MulOk z n ∧ Q (.str (Txt.mul z n)) H) := by
  intro pins s σ H x y v u Q I rx ry h
  obtain ⟨z, n, rfl, rfl, hm, q⟩ := h
  obtain ⟨t, rfl⟩ := rx
  obtain ⟨t', rfl⟩ := ry
  exact SB.mul hm fun tk k => ⟨.str _, H, I.tok _, ⟨_, rfl⟩, q⟩
end
/-- a short text -/
def Short (v : V) : Prop := ∃ x : PySem.Str, v = .str x ∧ x.length ≤ 50 ∧ ∀ k ∈ x.cps.toList, k < 16 ^ 8
theorem Short.low {b : Addr} {H : Hp} {v : V} (s : Short v) : Low b H v := by
  obtain ⟨x, rfl, h1, h2⟩ := s
  exact .str x h1 h2
theorem Short.pv {b : Addr} {H : Hp} {v : V} (s : Short v) : Pv b H 0 1010 v := by
  obtain ⟨x, rfl, h1, h2⟩ := s
  exact pv_str (by omega) h2
def names1 : List V := [.str "a", .str "core", .str "lib-x", .str "z9", .str (Txt.mul "a" 20), .str (Txt.mul "a" 21), .str "-a", .str "9a", .str "A", .str "a_b", .str "", .str "a b", .str "a~"]
def names2 : List V := [.str "a-", .str "a--9", .str "core\n"]
theorem short1 : ∀ v ∈ names1 ++ names2, Short v :=
  all_cons ⟨_, rfl, by decide +kernel, ofs_ok _⟩ (all_cons ⟨_, rfl, by decide +kernel, ofs_ok _⟩ (all_cons ⟨_, rfl, by decide +kernel, ofs_ok _⟩ (all_cons ⟨_, rfl, by decide +kernel, ofs_ok _⟩ (all_cons ⟨_, rfl, by decide +kernel, by decide +kernel⟩ (all_cons ⟨_, rfl, by decide +kernel, by decide +kernel⟩ (all_cons ⟨_, rfl, by decide +kernel, ofs_ok _⟩ (all_cons ⟨_, rfl, by decide +kernel, ofs_ok _⟩ (all_cons ⟨_, rfl, by decide +kernel, ofs_ok _⟩ (all_cons ⟨_, rfl, by decide +kernel, ofs_ok _⟩ (all_cons ⟨_, rfl, by decide +kernel, ofs_ok _⟩ (all_cons ⟨_, rfl, by decide +kernel, ofs_ok _⟩ (all_cons ⟨_, rfl, by decide +kernel, ofs_ok _⟩ (all_cons ⟨_, rfl, by decide +kernel, ofs_ok _⟩ (all_cons ⟨_, rfl, by decide +kernel, ofs_ok _⟩ (all_cons ⟨_, rfl, by decide +kernel, ofs_ok _⟩ (fun v hv => by cases hv))))))))))))))))
theorem Vs.low {b p : Addr} {H : Hp} {ns : List Int} (h : Vs ns) (hp : H p = some (.tup (ns.map V.int))) (pb : p ≠ b) : Low b H (.ref p) := .tup pb hp (by rw [List.length_map, h.1]; decide) fun v hv => by
  obtain ⟨n, hn, rfl⟩ := List.mem_map.mp hv
  have := h.2 n hn
  exact .int n (by omega)
theorem Vs.pv {b p : Addr} {H : Hp} {ns : List Int} (h : Vs ns) (hp : H p = some (.tup (ns.map V.int))) (pb : p ≠ b) : Pv b H 1 220 (.ref p) := by
  have all : ∃ as ts e, Shw H (ns.map V.int) 0 as ts e ∧ e ≤ 70 * (ns.map V.int).length ∧ b ∉ as := Pv.all fun v hv => by
    obtain ⟨n, hn, rfl⟩ := List.mem_map.mp hv
    have := h.2 n hn
    exact pv_int (by omega)
  obtain ⟨as, ts, e, q, l, nb⟩ := all
  rw [List.length_map, h.1] at l
  have na : as = [] := by
    have flat : ∀ {vs : List V} {as ts e}, Shw H vs 0 as ts e → as = [] := by
      intro vs as ts e z
      generalize hd : (0 : Nat) = d at z
      induction z with
      | nil => rfl
      | non r ih => exact ih hd
      | bl b r ih => exact ih hd
      | int i hi r ih => exact ih hd
      | str x hx hc r ih => exact ih hd
      | lst h q hn r i1 i2 => cases hd
      | tup h q hn r i1 i2 => cases hd
      | dic ks h hk q hn r i1 i2 => cases hd
    exact flat q
  subst na
  exact ⟨_, _, _, .tup hp q (by simp) .nil, by omega, by simpa using pb.symm⟩
theorem isV_same {H H' : Hp} {v : V} (k : Kn H v) (s : Same H H') : isV H' v = isV H v := by
  cases k.kind with
  | non => rfl
  | bl c => rfl
  | int i h => rfl
  | str x h hc => rfl
  | @lst a xs h =>
    have e : ∀ G : Hp, G a = some (.lst xs) → isV G (.ref a) = false := fun G hG => isV_not fun a' ys z y => by cases z; rw [hG] at y; cases y
    rw [e H h, e H' (s _ _ h)]
  | @dic a xs h =>
    have e : ∀ G : Hp, G a = some (.dK xs) → isV G (.ref a) = false := fun G hG => isV_not fun a' ys z y => by cases z; rw [hG] at y; cases y
    rw [e H h, e H' (s _ _ h)]
  | tup h k => rw [isV_tup h, isV_tup (s _ _ h)]
/-- the defs that judge -/
structure Jd (K : PySem.W.Frag) (mg : PySem.Str → Option Value) (f1 f2 f3 f4 f5 f6 : Addr) (d1 d2 d3 d4 d5 d6 : FuncData) (k1 k2 k3 k4 : Tok) : Prop where
  F1 : Fun K "is_integer" "is_integer" sIsInt f1 d1
  F2 : Fun K "is_version" "is_version" sIsVer f2 d2
  F3 : Fun K "is_name" "is_name" sIsName f3 d3
  F4 : Fun K "_law_is_version" "_law_is_version" sLIsVer f4 d4
  F5 : Fun K "_law_is_name" "_law_is_name" sLIsName f5 d5
  F6 : Fun K "_law_alike" "_law_alike" sAlike f6 d6
  b1 : Binds K d1 ["thing"] []
  b2 : Binds K d2 ["thing"] []
  b3 : Binds K d3 ["thing"] []
  b4 : Binds K d4 ["thing"] []
  b5 : Binds K d5 ["thing"] []
  b6 : Binds K d6 ["found", "due"] []
  g1 : mg "is_integer" = some (.ref f1)
  g2 : mg "is_version" = some (.ref f2)
  g3 : mg "is_name" = some (.ref f3)
  g4 : mg "_law_is_version" = some (.ref f4)
  g5 : mg "_law_is_name" = some (.ref f5)
  g6 : mg "_law_alike" = some (.ref f6)
  gG : mg "GREATEST" = some (.int 999999 k1)
  gL : mg "LONGEST_NAME" = some (.int 20 k2)
  gA : mg "LETTERS" = some (.str Lt k3)
  gN : mg "NAME_SIGNS" = some (.str Nz k4)
  mAll : mg "all" = none
  mRepr : mg "repr" = none
section
variable {P : Program} {w : World} {K : PySem.W.Frag} {mg : PySem.Str → Option Value} {base : Heap}
def spJudged : Sp := fun vs H Q _ => ∃ b p ns, vs = [.ref b, .ref p] ∧ Bag H b ∧ H p = some (.tup (ns.map V.int)) ∧ Vs ns ∧ p ≠ b ∧ ∀ H', Chb b H H' → Bag H' b → Q (.bl true) H'
theorem ok_judged {f : Addr} {fd : FuncData} {fT fO fI fD fB : Addr} {dT dO dI dD dB : FuncData} {f1 f2 f3 f4 f5 f6 : Addr} {d1 d2 d3 d4 d5 d6 : FuncData} {k1 k2 k3 k4 : Tok} (F : Fun K "_law_are_values_judged" "_law_are_values_judged" sJudged f fd)
    (T : Fns K mg fT fO fI fD fB dT dO dI dD dB) (J : Jd K mg f1 f2 f3 f4 f5 f6 d1 d2 d3 d4 d5 d6 k1 k2 k3 k4) : Ok0 P w K mg base 9 f fd ["bag", "version"] spJudged := by
  have GB : FnOk P w K mg base CX0 8 fB dB ["bag", "thing", "deep"] (spBent 3) := ok_bent T 3
  have GB1 : FnOk P w K mg base CX0 7 fB dB ["bag", "thing", "deep"] (spBent 2) := ok_bent T 2
  have GO : FnOk P w K mg base CX0 2 fO dO ["bag", "things"] spOne := ok_one T.FO T.FT T.bT T.gT T.mInt T.mLen
  have GD : FnOk P w K mg base CX0 3 fD dD ["bag"] spOdd := ok_odd T.FD T.FO T.bO T.gO T.FT T.bT T.gT T.mInt T.mLen
  have GI : FnOk P w K mg base CX0 1 fI dI ["thing"] spIntK := ok_integerK T.FI T.mIsi T.mInt T.mBool
  have G1 : FnOk P w K mg base CX0 1 f1 d1 ["thing"] spIntK := ok_isint J.F1 T.mIsi T.mInt T.mBool
  have G2 : FnOk P w K mg base CX0 2 f2 d2 ["thing"] spIsV := ok_isver J.F2 J.F1 J.b1 J.g1 J.gG T.mIsi T.mInt T.mBool T.mTup T.mLen J.mAll
  have G3 : FnOk P w K mg base CX0 1 f3 d3 ["thing"] spIsN := ok_isname J.F3 J.gL J.gA J.gN T.mIsi T.mStr T.mLen J.mAll
  have G4 : FnOk P w K mg base CX0 2 f4 d4 ["thing"] spIsV := ok_lisver J.F4 T.FI T.bI T.gI T.mIsi T.mInt T.mBool T.mTup T.mLen
  have G5 : FnOk P w K mg base CX0 1 f5 d5 ["thing"] spIsN := ok_lisname J.F5 T.mIsi T.mStr T.mLen
  have G6 : Ok0 P w K mg base 1 f6 d6 ["found", "due"] (spAlike K) := ok_alike J.F6 J.mRepr
  refine Ok0.mk_of F scJudged (fun vs H Q E h => ?_) (fun cdv A outer s H vs Q E hgd hr h => ?_)
  · obtain ⟨b, p, ns, rfl, _⟩ := h
    rfl
  · obtain ⟨b, p, ns, rfl, hB, hp, hv, pb, q⟩ := h
    have hr8 : Room 8 _ := hr
    have hr7 : Room 7 _ := hr.mono (show 7 ≤ 8 by decide)
    have hr3 : Room 3 _ := hr.mono (show 3 ≤ 8 by decide)
    have hr2 : Room 2 _ := hr.mono (show 2 ≤ 8 by decide)
    have hr1 : Room 1 _ := hr.mono (show 1 ≤ 8 by decide)
    refine ⟨_, C8.pss_cut (ps_set (i := 2) scJudged.nd rfl (.inl rfl) (pe_lst (pa_cons pe_str (pa_cons pe_str (pa_cons pe_str (pa_cons pe_str (pa_cons (pe_op op_mulS pe_str pe_int) (pa_cons (pe_op op_mulS pe_str pe_int) (pa_cons pe_str (pa_cons pe_str (pa_cons pe_str (pa_cons pe_str (pa_cons pe_str (pa_cons pe_str (pa_cons pe_str pa_nil)))))))))))))))
      (C8.pss_cut (ps_set (i := 2) scJudged.nd rfl (.inl rfl) (pe_op op_cat (pv 2) (pe_lst (pa_cons pe_str (pa_cons pe_str (pa_cons pe_str pa_nil))))))
      (C8.pss_cut (ps_set (i := 3) scJudged.nd rfl (.inl rfl) (pe_lst (pa_cons (pv 1) (pa_cons (pe_call GB hr8 (by rfl) T.gB T.FB.kp T.bB .nil pass0 (pa_cons (pv 0) (pa_cons (pv 1) (pa_cons pe_int pa_nil)))) (pa_cons (pe_call GB hr8 (by rfl) T.gB T.FB.kp T.bB .nil pass0 (pa_cons (pv 0) (pa_cons (pv 1) (pa_cons pe_int pa_nil)))) (pa_cons (pe_call GD hr3 (by rfl) T.gD T.FD.kp T.bD .nil pass0 (pa_cons (pv 0) pa_nil)) (pa_cons (pe_call GO hr2 (by rfl) T.gO T.FO.kp T.bO .nil pass0 (pa_cons (pv 0) (pa_cons (pv 2) pa_nil))) pa_nil)))))))
      (C8.pss_cut (ps_set (i := 3) scJudged.nd rfl (.inl rfl) (pe_op op_cat (pv 3) (pe_lst (pa_cons (pe_call GB1 hr7 (by rfl) T.gB T.FB.kp T.bB .nil pass0 (pa_cons (pv 0) (pa_cons (pe_call GO hr2 (by rfl) T.gO T.FO.kp T.bO .nil pass0 (pa_cons (pv 0) (pa_cons (pv 2) pa_nil))) (pa_cons pe_int pa_nil)))) (pa_cons (pe_ix ix_tup (pv 1) pe_int (fun _ _ => rfl)) (pa_cons (pe_call GO hr2 (by rfl) T.gO T.FO.kp T.bO .nil pass0 (pa_cons (pv 0) (pa_cons (pv 2) pa_nil))) pa_nil))))))
      (pss_cons (ps_for PassesOwn.never rfl (pi_list (pv 3)) (pg_name (i := 4) scJudged.nd rfl (Or.inl rfl))
        (pss_cons (ps_par (i := 5) (j := 6) rfl scJudged.nd rfl rfl (by decide) rfl rfl (pa_cons (pe_callB (call_reprV hgd hr.units) (by rfl) J.mRepr (by decide +kernel) (pa_cons (pv 4) pa_nil)) (pa_cons (pe_lst (pa_cons (pe_call GI hr1 (by rfl) T.gI T.FI.kp T.bI .nil pass0 (pa_cons (pv 4) pa_nil)) (pa_cons (pe_call G4 hr2 (by rfl) J.g4 J.F4.kp J.b4 .nil pass0 (pa_cons (pv 4) pa_nil)) (pa_cons (pe_call G5 hr1 (by rfl) J.g5 J.F5.kp J.b5 .nil pass0 (pa_cons (pv 4) pa_nil)) pa_nil)))) pa_nil)) (by rfl))
        (pss_one (ps_if (PW.pt (pw_or (pt_not (pt_val (pe_call00 G6 hgd hr1 (by rfl) J.g6 J.F6.kp J.b6 (pa_cons (pe_lst (pa_cons (pe_call G1 hr1 (by rfl) J.g1 J.F1.kp J.b1 .nil pass0 (pa_cons (pv 4) pa_nil)) (pa_cons (pe_call G2 hr2 (by rfl) J.g2 J.F2.kp J.b2 .nil pass0 (pa_cons (pv 4) pa_nil)) (pa_cons (pe_call G3 hr1 (by rfl) J.g3 J.F3.kp J.b3 .nil pass0 (pa_cons (pv 4) pa_nil)) pa_nil)))) (pa_cons (pv 6) pa_nil))))) (pw_or1 (pt_cmpR op_ne (pe_callB (call_reprV hgd hr.units) (by rfl) J.mRepr (by decide +kernel) (pa_cons (pv 4) pa_nil)) (pv 5) (nomark _))))) (pss_one (ps_ret pe_bl)) pss_nil))))
      (pss_one (ps_ret pe_bl)))))), ?_⟩
    have nmne : names1 ++ names2 ≠ [] := by simp [names1]
    have nmle : (names1 ++ names2).length ≤ 1000 := by show 16 ≤ 1000; decide
    -- names
    refine ⟨fun σ' H' => ∃ l, σ' = [some (.ref b), some (.ref p), some (.ref l), none, none, none, none] ∧ Same H H' ∧ H' l = some (.lst names1), ?_, ?_⟩
    · exact ⟨"a", 20, rfl, rfl, mulOk_of 1 20 (by decide +kernel) (by decide) (by decide) (by decide) (by decide), "a", 21, rfl, rfl, mulOk_of 1 21 (by decide +kernel) (by decide) (by decide) (by decide) (by decide), by show 13 ≤ sizeLine; decide, fun l nl => ⟨l, rfl, new_same nl, upd_same⟩⟩
    rintro σ' H1 ⟨l1, rfl, s1, hl1⟩
    refine ⟨fun σ' H' => ∃ l, σ' = [some (.ref b), some (.ref p), some (.ref l), none, none, none, none] ∧ Same H H' ∧ H' l = some (.lst (names1 ++ names2)) ∧ l ≠ b, ?_, ?_⟩
    · refine ⟨.ref l1, rfl, by show 3 ≤ sizeLine; decide, fun l nl => ⟨l1, l, names1, names2, rfl, rfl, new_ne hl1 nl, upd_same, by show 16 ≤ sizeLine; decide, fun m nm => ⟨m, rfl, s1.trans ((new_same nl).trans (new_same nm)), upd_same, ?_⟩⟩⟩
      obtain ⟨ob, hb⟩ := hB.lst
      exact (ne_of_none (new_ne (s1 _ _ hb) nl) nm).symm
    rintro σ' H2 ⟨l, rfl, s2, hl, lb⟩
    have hB2 := hB.same s2
    have hp2 := s2 _ _ hp
    clear hl1 s1
    have cb2 : CB 2 ≤ 590530 := by decide
    have cb1 : CB 1 ≤ 590530 := by decide
    -- things
    refine ⟨fun σ' H' => ∃ t vs, σ' = [some (.ref b), some (.ref p), some (.ref l), some (.ref t), none, none, none] ∧ Chb b H2 H' ∧ Bag H' b ∧ H' t = some (.lst vs) ∧ t ≠ b ∧ (∀ v ∈ vs, Pv b H' 5 590530 v) ∧ vs.length = 5, ?_, ?_⟩
    · refine ⟨.ref p, rfl, .ref b, rfl, .ref p, rfl, b, .ref p, rfl, hB2, hv.low hp2 pb, (hv.pv hp2 pb).mono (by decide) (by decide), fun H3 v1 c3 B3 pv1 => ?_⟩
      have hp3 := c3 _ _ pb hp2
      refine ⟨.ref b, rfl, .ref p, rfl, b, .ref p, rfl, B3, hv.low hp3 pb, (hv.pv hp3 pb).mono (by decide) (by decide), fun H4 v2 c4 B4 pv2 => ?_⟩
      refine ⟨.ref b, rfl, b, rfl, B4, fun H5 v3 c5 B5 lo3 pv3 => ?_⟩
      refine ⟨.ref b, rfl, .ref l, rfl, b, l, names1 ++ names2, rfl, B5, ((c3.trans c4).trans c5) _ _ lb hl, lb, nmne, nmle, fun H6 v4 c6 B6 hv4 => ⟨by show 5 ≤ sizeLine; decide, fun t nt => ?_⟩⟩
      have c26 : Chb b H2 H6 := ((c3.trans c4).trans c5).trans c6
      obtain ⟨o6, hb6⟩ := B6.lst
      refine ⟨t, _, rfl, c26.trans (Chb.new nt), B6.same (new_same nt), upd_same, (ne_of_none hb6 nt).symm, ?_, rfl⟩
      have n6 : Chb b H6 (upd H6 t (.lst [.ref p, v1, v2, v3, v4])) := Chb.new nt
      exact all_cons (((hv.pv hp2 pb).chg (c26.trans n6)).mono (by decide) (by decide)) (all_cons ((pv1.chg (((c4.trans c5).trans c6).trans n6)).mono (by decide) cb2) (all_cons ((pv2.chg ((c5.trans c6).trans n6)).mono (by decide) cb2)
        (all_cons ((pv3.chg (c6.trans n6)).mono (by decide) (by decide)) (all_cons ((short1 v4 hv4).pv.mono (by decide) (by decide)) fun v hv => by cases hv))))
    rintro σ' H7 ⟨t, vs, rfl, c7, B7, ht, tb, hvs, hlen⟩
    have hp7 := c7 _ _ pb hp2
    have hl7 := c7 _ _ lb hl
    refine ⟨fun σ' H' => ∃ t vs, σ' = [some (.ref b), some (.ref p), some (.ref l), some (.ref t), none, none, none] ∧ Chb b H2 H' ∧ Bag H' b ∧ H' t = some (.lst vs) ∧ (∀ v ∈ vs, Pv b H' 5 590530 v) ∧ vs.length ≤ 8, ?_, ?_⟩
    · refine ⟨.ref t, rfl, .ref b, rfl, .ref b, rfl, .ref l, rfl, b, l, names1 ++ names2, rfl, B7, hl7, lb, nmne, nmle, fun H8 v5 c8 B8 hv5 => ?_⟩
      refine ⟨b, v5, rfl, B8, (short1 v5 hv5).low, (short1 v5 hv5).pv.mono (by decide) (by decide), fun H9 v6 c9 B9 pv6 => ?_⟩
      have c79 := c8.trans c9
      refine ⟨.ref p, rfl, p, ns.map V.int, 0, .int (ns.getD 0 0), rfl, rfl, .inl (.inl (c79 _ _ pb hp7)), hv.at_ (k := 0) (by decide), ?_⟩
      refine ⟨.ref b, rfl, .ref l, rfl, b, l, names1 ++ names2, rfl, B9, c79 _ _ lb hl7, lb, nmne, nmle, fun H10 v7 c10 B10 hv7 => ⟨by show 3 ≤ sizeLine; decide, fun u nu => ?_⟩⟩
      have c710 := c79.trans c10
      have ht10 := c710 _ _ tb ht
      refine ⟨t, u, vs, _, rfl, rfl, new_ne ht10 nu, upd_same, by rw [hlen]; show 8 ≤ sizeLine; decide, fun m nm => ?_⟩
      have n10 : Chb b H10 (upd (upd H10 u (.lst [v6, .int (ns.getD 0 0), v7])) m (.lst (vs ++ [v6, .int (ns.getD 0 0), v7]))) := (Chb.new nu).trans (Chb.new nm)
      refine ⟨m, vs ++ [v6, .int (ns.getD 0 0), v7], rfl, (c7.trans c710).trans n10, (B10.same (new_same nu)).same (new_same nm), upd_same, fun v hv' => ?_, by rw [List.length_append, hlen]; show 8 ≤ 8; decide⟩
      rcases List.mem_append.mp hv' with e | e
      · exact (hvs v e).chg (c710.trans n10)
      · have b0 := hv.bd (k := 0) (by decide)
        refine all_cons (F := fun v => Pv b _ 5 590530 v) ((pv6.chg (c10.trans n10)).mono (by decide) cb1) (all_cons ((pv_int (by omega)).mono (by decide) (by decide)) (all_cons ((short1 v7 hv7).pv.mono (by decide) (by decide)) fun v hv => by cases hv)) v e
    rintro σ' H11 ⟨t2, vs2, rfl, c11, B11, ht2, hvs2, hlen2⟩
    clear hvs ht hp7 hl7 B7 c7
    -- each thing
    refine ⟨_, rfl, t2, rfl, ⟨_, .inl (.inl ht2)⟩, for_it (walk_list (xs := vs2)) (fun i σ' H' => (∃ y4 y5 y6, σ' = [some (.ref b), some (.ref p), some (.ref l), some (.ref t2), y4, y5, y6]) ∧ Same H11 H') ⟨⟨none, none, none, rfl⟩, Same.refl _⟩ (fun i σ' H' _ hP => .inl (.inl (hP.2 _ _ ht2))) ?_ (fun σ' H' hP => ?_)⟩
    · rintro i v σ' Hi H' hi ⟨⟨y4, y5, y6, rfl⟩, si⟩ ⟨rfl, hx⟩
      obtain ⟨as, tx, c, S, hc, nb⟩ := (hvs2 v (List.mem_of_getElem? hx)).chg (Chb.same si)
      have kn : Kn H' v := ⟨_, _, _, _, S⟩
      have tl : ∀ H'', Same H' H'' → ∀ a xs, v = .ref a → H'' a = some (.tup xs) → xs.length ≤ 100000 := fun H'' s a xs e h => by
        subst e
        have := (S.keep fun y _ o e => s y o e).tupLen h
        omega
      -- shown, due
      refine ⟨v, rfl, v, 5, as, tx, c, rfl, S, by decide, by omega, ?_⟩
      refine ⟨v, rfl, v, rfl, kn, v, rfl, v, rfl, kn, tl _ (Same.refl _), fun Ha sa => ⟨v, rfl, v, rfl, kn.same sa, fun Hb sb => ⟨by show 3 ≤ sizeLine; decide, fun dl nd => ⟨_, _, rfl, ?_⟩⟩⟩⟩
      have sab := sa.trans sb
      have hdl : upd Hb dl (.lst [.bl (isI v), .bl (isV H' v), .bl (isN v)]) dl = some (.lst [.bl (isI v), .bl (isV H' v), .bl (isN v)]) := upd_same
      have sd : Same H' (upd Hb dl (.lst [.bl (isI v), .bl (isV H' v), .bl (isN v)])) := sab.trans (new_same nd)
      generalize upd Hb dl (.lst [.bl (isI v), .bl (isV H' v), .bl (isN v)]) = Hd at hdl sd ⊢
      -- found
      have knd := kn.same sd
      refine ⟨v, rfl, v, rfl, knd, v, rfl, v, rfl, knd, tl _ sd, fun He se => ⟨v, rfl, v, rfl, knd.same se, fun Hf sf => ⟨by show 3 ≤ sizeLine; decide, fun fl nf => ?_⟩⟩⟩
      rw [isV_same kn sd]
      have hfl : upd Hf fl (.lst [.bl (isI v), .bl (isV H' v), .bl (isN v)]) fl = some (.lst [.bl (isI v), .bl (isV H' v), .bl (isN v)]) := upd_same
      have sg : Same Hd (upd Hf fl (.lst [.bl (isI v), .bl (isV H' v), .bl (isN v)])) := (se.trans sf).trans (new_same nf)
      generalize upd Hf fl (.lst [.bl (isI v), .bl (isV H' v), .bl (isN v)]) = Hg at hfl sg ⊢
      have hdl' := sg _ _ hdl
      refine ⟨_, rfl, _, _, _, 1, _, _, _, _, _, rfl, bl3_dp hfl, bl3_dp hdl', bl3_shaped _ _ _, bl3_shw hfl, bl3_shw hdl', by decide, by decide, by decide, true, rfl, ?_⟩
      have Sg : Shw Hg [v] 5 as [tx] c := S.keep fun y _ o e => sg _ _ (sd y o e)
      refine ⟨v, rfl, v, 5, as, tx, c, rfl, Sg, by decide, by omega, _, rfl, rfl, _, rfl, ?_⟩
      rw [show decide (V.str tx = V.str tx) = true from decide_eq_true rfl]
      exact ⟨⟨_, _, _, rfl⟩, si.trans (sd.trans sg)⟩
    · exact q H' ((Chb.same s2).trans (c11.trans (Chb.same hP.2))) (B11.same hP.2)
end
end V1
/-! read_version, which may raise. -/
namespace V1
open PySem PySem.Spec PyProof.Rows L2 TL
abbrev sInitW : Stmt := inClass (topS 2) 0
abbrev sRead : Stmt := topS 17
theorem scInitW : FnScope ["self", "place"] ["self", "place"] (defScope sInitW) := ⟨rfl, rfl, rfl, by decide +kernel, rfl, by decide +kernel, by decide +kernel⟩
theorem scRead : FnScope ["text", "version"] ["text"] (defScope sRead) := ⟨rfl, rfl, rfl, by decide +kernel, rfl, by decide +kernel, by decide +kernel⟩
/-- what the written part says of Wrong, at CW, and NoVersion, at CN -/
structure Ex (K : PySem.W.Frag) (mg : PySem.Str → Option Value) (CW CN fI : Addr) (dI : FuncData) : Prop where
  gW : mg "Wrong" = some (.ref CW)
  ox : OexC K CW
  iC : PySem.W.findIn K (.ref CW) "__init__" = some (some (.ref fI))
  tI : PySem.W.typeIn K (.ref fI) = some (.type "function")
  no : PySem.W.findIn K (.ref CW) "place" = some none
  fn : Fun K "__init__" "Wrong.__init__" sInitW fI dI
  bI : Binds K dI ["self", "place"] []
  gN : mg "NoVersion" = some (.ref CN)
  xN : PySem.W.excIn K CN [.type "ValueError", .type "Exception", .type "BaseException", .type "object"] "ValueError.__new__" = true
  kN : PySem.W.keepIn K (.ref CN) = true
  bN : PySem.W.subIn K (.ref CN) (.type "BaseException") = some true
  tN : PySem.W.typeIn K (.ref CN) = some (.type "type")
section
variable {P : Program} {w : World} {K : PySem.W.Frag} {mg : PySem.Str → Option Value} {base : Heap}
def spInitW (C : Addr) : Sp := fun vs H Q _ => ∃ (a : Addr) (v : V), vs = [.ref a, v] ∧ H a = some (exo a C none) ∧ ∀ d, H d = none → d ≠ a → Q .non (upd (upd H d (exd d [("place", v)])) a (exo a C (some d)))
theorem init_W {CW CN fI : Addr} {dI : FuncData} {k : Nat} (T : Ex K mg CW CN fI dI) : FnOk P w K mg base CX0 (k + 1) fI dI ["self", "place"] (spInitW CW) := by
  refine T.fn.ok scInitW (fun vs H Q E h => ?_) (fun cdv A outer s H vs Q E hr h => ?_)
  · obtain ⟨a, v, rfl, _⟩ := h
    rfl
  · obtain ⟨a, v, rfl, ha, q⟩ := h
    refine ⟨_, pss_one (ps_ost (pv 0) (pv 1)), ?_⟩
    exact ⟨v, rfl, .ref a, rfl, a, CW, rfl, T.ox, T.no, .inl ⟨ha, fun d nd ne => q d nd ne⟩⟩
end
section
variable {X : Cx}
/-- Wrong(i) -/
theorem pmk_wrong {CW CN fI : Addr} {dI : FuncData} {k : Nat} {p pos p2 : Pos} {i : Int} {j : Nat} (T : Ex X.K X.mg CW CN fI dI) (hr : Room (k + 2) X.A) (hg : Gl X "Wrong") :
    PMk X (.Call (.Name "Wrong" p) [.Constant (.int i) j p2] [] pos) (fun σ H Q => ∀ H' d, Same H H' → H d = none → H' d = some (.xd [("place", .int i)]) → Q (.ref CW) (some d) H') := by
  intro pins s σ H Q I h
  refine pmk_oex (CX := CX0) (dvs := []) (ds := []) T.ox T.iC T.tI (init_W (k := k) T) hr T.bI .nil pass0 hg T.gW (pa_cons pe_int pa_nil) (by decide) (by rfl) (by rfl) pins s σ H Q I ?_
  refine ⟨by show 1 ≤ 1000; decide, fun a na => ⟨a, .int i, rfl, upd_same, fun d nd ne => ⟨rfl, d, [("place", .int i)], upd_same, ?_, ?_, ?_⟩⟩⟩
  · rw [upd_ne ne]
    exact upd_same
  · rw [upd_ne ne] at nd
    exact nd
  · rw [upd_ne ne] at nd
    refine h _ d (fun b o hb => ?_) nd upd_same
    have h1 : b ≠ d := ne_of_none hb nd
    have h2 : b ≠ a := ne_of_none hb na
    rw [upd_ne h1, del_ne h2, upd_ne h2, upd_ne h1, upd_ne h2]
    exact hb
/-- X(), X an own exception class without own __init__ -/
theorem pmk_own0 {C : Addr} {bmB : List Value} {B newId initId : String} {x : PySem.Str} {p pos : Pos} (F : ExcBaseFacts B newId initId bmB) (q : PySem.W.excIn X.K C bmB newId = true) (gC : X.mg x = some (.ref C))
    (kC : PySem.W.keepIn X.K (.ref C) = true) (r : Raises X (.ref C)) (hg : Gl X x) (hdb : (x == ("__debug__" : PySem.Str)) = false := by decide) :
    PMk X (.Call (.Name x p) [] [] pos) (fun _ H Q => Q (.ref C) none H) := by
  intro pins s σ H Q I h
  refine wpAny_Call_Name_kw (ld_glob I hg gC ?_ hdb)
  refine PySem.W.callWith_K0 I.kIn kC ?_
  show wpAny _ _ (call (.ref C) []) _ _ _
  obtain ⟨bm, N, nm, qn, bs, hdct, sn, sub, ab, col, dd, k0, k1, k2, k3, k5, mN, hC, hN, hni, T⟩ := exc_obj I.kIn q
  refine wpAny_call_exc_subT F T hC hN hni (fun h' e hm => ?_) (by show 0 ≤ sizeLine; exact Nat.zero_le _)
  exact mk_of I hm r h (I.hok.gone hm.new)
end
section
variable {P : Program} {w : World} {K : PySem.W.Frag} {mg : PySem.Str → Option Value} {base : Heap}
def spRead (CW CN : Addr) : Sp := fun vs H Q E => (∃ v, vs = [v] ∧ Kn H v ∧ isS v = false ∧ ∀ H' d, Same H H' → H d = none → H' d = some (.xd [("place", .int 0)]) → E (.ref CW) (some d) H') ∨
  (∃ x : PySem.Str, vs = [.str x] ∧ x.length ≤ 90000 ∧ (∀ ns H' a, readV x = some ns → Same H H' → H' a = some (.tup (ns.map V.int)) → Q (.ref a) H') ∧ (readV x = none → ∀ H', Same H H' → E (.ref CN) none H'))
theorem ok_read {f fV fS : Addr} {fd fdV fdS : FuncData} {k : Nat} {CW CN fI : Addr} {dI : FuncData} (F : Fun K "read_version" "read_version" sRead f fd) (FV : Fun K "version_told" "version_told" sTold fV fdV) (bV : Binds K fdV ["text"] []) (gV : mg "version_told" = some (.ref fV))
    (FS : Fun K "is_shown_number" "is_shown_number" sShown fS fdS) (bS : Binds K fdS ["word"] []) (gS : mg "is_shown_number" = some (.ref fS)) (T : Ex K mg CW CN fI dI)
    {t1 t2 : Tok} (gM : mg "MOST_FIGURES" = some (.int 6 t1)) (gF : mg "FIGURES" = some (.str Fg t2)) (mS : mg "isinstance" = none) (mT : mg "str" = none) (mL : mg "len" = none) (mA : mg "all" = none) (mI : mg "int" = none) : FnOk P w K mg base (L2.CX P w) (k + 3) f fd ["text"] (spRead CW CN) := by
  have GV : FnOk P w K mg base CX0 (k + 2) fV fdV ["text"] spTold := ok_told FV FS bS gS gM gF mL mA mI
  refine F.okX scRead (fun vs H Q E h => ?_) (fun cdv A outer s H vs Q E hr h => ?_)
  · rcases h with ⟨v, rfl, _⟩ | ⟨x, rfl, _⟩ <;> rfl
  · refine ⟨_, pss_cons (ps_if (pt_not (pt_val (pe_callB call_isi (by rfl) mS (by decide +kernel) (pa_cons (pv 0) (pa_cons (pe_bltn (v := .ty "str") (u := .type "str") (by rfl) mT (by decide +kernel) rfl) pa_nil)))))
        (pss_one (ps_raise rfl (takes_of rfl rfl rfl rfl) (pmk_wrong T hr (by rfl)))) pss_nil)
      (pss_cons (ps_set (i := 1) scRead.nd rfl (.inl rfl) (pe_call GV hr (by rfl) gV FV.kp bV .nil pass0 (pa_cons (pv 0) pa_nil)))
      (pss_cons (ps_if (pt_cmpR op_isN (pv 1) pe_non (nomark _)) (pss_one (ps_raise rfl (takes_of rfl rfl rfl rfl) (pmk_own0 PySem.F.excBase_ValueError T.xN T.gN T.kN (raises_own T.bN T.tN) (by rfl)))) pss_nil)
      (pss_one (ps_ret (pv 1))))), ?_⟩
    rcases h with ⟨v, rfl, kn, hs, q⟩ | ⟨x, rfl, hx, q1, q2⟩
    · obtain ⟨Ty, ty, _, _, t3, _⟩ := kn.kind.ty K
      rw [hs] at t3
      exact ⟨v, rfl, v, .ty "str", _, _, _, rfl, .ty "str", ty, t3, _, rfl, fun H' d s' nd hd => q H' d s' nd hd⟩
    · have t3 := (kits K "str" (by decide)).2.2.1
      refine ⟨.str x, rfl, .str x, .ty "str", _, _, _, rfl, .ty "str", .base (.str x), t3, true, rfl, ?_⟩
      refine ⟨.str x, rfl, x, rfl, hx, fun H' v s' hO => ?_⟩
      cases e : readV x with
      | none =>
        rw [e] at hO
        obtain rfl : v = .non := hO
        refine ⟨.non, rfl, rfl, _, rfl, ?_⟩
        rw [decide_eq_true (show V.non = V.non from rfl)]
        exact q2 e H' s'
      | some ns =>
        rw [e] at hO
        obtain ⟨a, rfl, ha⟩ := hO
        refine ⟨.ref a, rfl, rfl, _, rfl, ?_⟩
        rw [decide_eq_false (show ¬ V.ref a = V.non from fun z => nomatch z)]
        exact ⟨.ref a, rfl, q1 ns H' a e s' ha⟩
end
end V1
/-! A try whose first clause binds a name, others behind it. -/
namespace V1
open PySem PySem.Spec PyProof.Rows L2 TL
/-- what the clauses wish of an error that flies out of the body -/
def wFirst (K : PySem.W.Frag) (c : Value) (i : Nat) (ts : Addr → Value → Option Addr → TS) (l : List (Value × (Addr → Value → Option Addr → TS))) (D : Ends) : WX := fun cl d σ H =>
  ∃ b, PySem.W.exmOne K cl c = some b ∧ (b = true → ∀ a, H a = none → ts a cl d { nx := fun σ2 H2 => D.nx (σ2.set i none) H2, rt := D.rt, bk := fun σ2 H2 => D.bk (σ2.set i none) H2, ct := fun σ2 H2 => D.ct (σ2.set i none) H2 } (σ.set i (some (.ref a))) H) ∧
    (b = false → wMany K (fun _ _ _ _ => False) D l cl d σ H)
theorem ps_tryA {X : Cx} {x n : PySem.Str} {c : Value} {i : Nat} {body su : List Stmt} {b0 : Stmt} {np pos ps1 : Pos} {hds : List ExceptHandler} {l : List (Value × (Addr → Value → Option Addr → TS))} {tb : WX → TS} {ts : Addr → Value → Option Addr → TS}
    (st : X.stack = X.env :: X.outer) (fr : X.env.frame = some X.env.locals) (nd : X.N.Nodup) (hi : X.N[i]? = some n) (ln : X.env.kindOf n = some .local) (nm : Names X x c)
    (hb : ∀ (W : WX) (pn : List (Addr × Obj)) (xe : Value → Shared → Prop), Takes (X.tr pn xe) W → PassesOwn (model X.prog X.w) X.A X.env xe → PSs (X.tr pn xe) body (tb W))
    (hsu : ∀ (a : Addr) (oe : Obj) (cl : Value) (d : Option Addr) (pn : List (Addr × Obj)), Zc cl d oe → (∃ vs, oe.data = .fields vs) → PSs (X.suite a ((a, oe) :: pn)) (b0 :: su) (ts a cl d)) (hh : HdsOk X hds l) :
    PS X (.Try body (.ExceptHandler (some (.Name x np)) (some n) (b0 :: su) ps1 :: hds) [] [] pos) (fun D σ H => tb (wFirst X.K c i ts l D) D σ H) := by
  constructor
  intro pins s σ H D I h
  have ok := I.ok
  have tk0 : Takes X (fun _ _ _ _ => False) := takes_none5
  have frs1 : X.A.frames = some (X.env :: X.outer) := by rw [ok.frames, st]
  have lc : Loc X.env.scope n := .inl ln
  refine wpAny_Try_except (wpAny_mono ((hb (wFirst X.K c i ts l D) (X.pn ++ pins) (fun e z1 => wpAny (model X.prog X.w) X.A (noteFrame e X.env) (fun _ z2 => wpAny (model X.prog X.w) X.A (setFlight e none) (fun _ z3 =>
    wpAny (model X.prog X.w) X.A (handleBy e X.env (.ExceptHandler (some (.Name x np)) (some n) (b0 :: su) ps1 :: hds)) (SP X pins D) X.xe z3) X.xe z2) X.xe z1) (fun u z xx => ?_) PassesOwn.looking).run [] s σ H D (I.toTry _) h) (fun f z1 sp => ?_) (fun e z1 he => he))
  · obtain ⟨a, B, sI, pins2, σ1, H1, cl, d, rfl, J0, nb, up, sky, na, os, ag, b, e1, yes, no⟩ := xx
    have J : Inv X pins σ1 H1 sI := J0.ofTry ok
    have sky1 : Sky B (X.env :: X.outer) a (Zc cl d) X.env.locals z.heap := by rw [← st]; exact sky
    show wpAny (model X.prog X.w) X.A (noteFrame (.ref a) X.env) _ _ _
    refine Sky.land Zc.steady frs1 fr sky1 fun h3 fl3 up3 => ?_
    have J3 : Inv X pins σ1 H1 { z with heap := h3 } := J.landed nb fl3.1 (up.trans up3) os ag
    obtain ⟨o3, v3, he3, hz3, hd3⟩ := fl3.there
    have nfr : a ∉ frs (X.env :: X.outer) := fun hm => by
      obtain ⟨_, o', e', hnf⟩ := fl3.2.2.1.mem hm
      rw [he3] at e'; cases e'
      exact hnf _ hd3
    have nL : a ≠ X.env.locals := fun y => nfr (List.mem_filterMap.mpr ⟨X.env, List.mem_cons_self, by rw [fr, y]⟩)
    have nF : a ∉ X.fs := fun hm => by
      obtain ⟨e, he, q⟩ := List.mem_filterMap.mp hm
      exact nfr (List.mem_filterMap.mpr ⟨e, List.mem_cons_of_mem _ he, q⟩)
    have S3 := J3.suite he3 hd3 na nL nF
    have LT : PySem.W.Looks (model X.prog X.w) h3 (typeOf (.ref a)) cl := fun A Q E s k q => wpAny_typeOf_ref (k _ _ he3) (by rw [hz3.1]; exact q)
    have tst : ∀ {y : PySem.Str} {q : Pos} {c1 : Value}, Names X y c1 → ∀ {Q : Value → Shared → Prop} {E : Value → Shared → Prop}, Q c1 { z with heap := h3 } → wpAny (model X.prog X.w) (X.A.mark (some (.ref a))) (eval (.Name y q) X.env) Q E { z with heap := h3 } := fun {y q c1} nm {Q E} hq => by
      obtain ⟨hg, hdbg, hm | ⟨hm, hv, hnn⟩⟩ := nm
      · exact ld_glob (X := X.suite a ((a, o3) :: (X.pn ++ pins))) S3 hg hm hq hdbg
      · exact ld_blt (X := X.suite a ((a, o3) :: (X.pn ++ pins))) S3 hg hm hv hq hnn hdbg
    -- the clauses behind the first
    have rest : ∀ {hd1 : List ExceptHandler} {l1 : List (Value × (Addr → Value → Option Addr → TS))}, HdsOk X hd1 l1 → wMany X.K (fun _ _ _ _ => False) D l1 cl d σ1 H1 →
        wpAny (model X.prog X.w) X.A (handleBy (.ref a) X.env hd1) (SP X pins D) X.xe { z with heap := h3 } := by
      intro hd1 l1 hk
      induction hk with
      | nil => exact fun w => False.elim w
      | @cons y c1 t1 b1 su1 np1 ps2 hd2 l2 hc1 hs1 r1 ih =>
        rintro ⟨b, f1, y1, n1⟩
        refine wpAny_handleBy_cons (codeAny_handlers_test (tst hc1 ((PySem.W.exm_one (M := model X.prog X.w) J3.kIn LT f1).here ?_))) (by intro q; cases q)
        cases b with
        | false => exact ih (n1 rfl)
        | true =>
          refine codeAny_handlers_suite (HandSPX.lands_againZ fl3 fun h4 fl4 up4 => ?_)
          have J4 : Inv X pins σ1 H1 { z with heap := h4 } := J.landed nb fl4.1 ((up.trans up3).trans up4) os ag
          obtain ⟨o4, v4, he4, hz4, hd4⟩ := fl4.there
          refine wpAny_mono ((hs1 a o4 cl d (X.pn ++ pins) hz4 ⟨_, hd4⟩).run [] _ _ H1 _ (J4.suite he4 hd4 na nL nF) (y1 rfl a na)) (fun f s6 hp => ?_) (fun _ _ y => False.elim y)
          cases f with
          | ret u => obtain ⟨v6, σ6, H6, S6, r6, q6⟩ := hp; exact ⟨_, _, _, S6.unsuite ok, r6, q6⟩
          | next => obtain ⟨σ6, H6, S6, q6⟩ := hp; exact ⟨_, _, S6.unsuite ok, q6⟩
          | brk => obtain ⟨σ6, H6, S6, q6⟩ := hp; exact ⟨_, _, S6.unsuite ok, q6⟩
          | cont => obtain ⟨σ6, H6, S6, q6⟩ := hp; exact ⟨_, _, S6.unsuite ok, q6⟩
    -- the first clause
    refine wpAny_handleBy_cons (codeAny_handlers_test (tst nm ((PySem.W.exm_one (M := model X.prog X.w) J3.kIn LT e1).here ?_))) (by intro q; cases q)
    cases b with
    | false => exact rest hh (no rfl)
    | true =>
      refine codeAny_handlers_suite_as (HandSPX.lands_againZ fl3 fun h4 fl4 up4 => ?_)
      have J4 : Inv X pins σ1 H1 { z with heap := h4 } := J.landed nb fl4.1 ((up.trans up3).trans up4) os ag
      obtain ⟨o4, v4, he4, hz4, hd4⟩ := fl4.there
      refine store_ok (X := X.suite a ((a, o4) :: (X.pn ++ pins))) (v := .ref a) (J4.suite he4 hd4 na nL nF) nd hi lc rfl (fun s5 S5 => ?_) (.inr ln)
      refine wpAny_mono ((hsu a o4 cl d (X.pn ++ pins) hz4 ⟨_, hd4⟩).run [] s5 _ H1 _ S5 (yes rfl a na)) (fun f s6 hp => ?_) (fun _ _ y => False.elim y)
      have fin : ∀ {σ6 : L2.St} {H6 : Hp} {Q : Shared → Prop}, Inv (X.suite a ((a, o4) :: (X.pn ++ pins))) [] σ6 H6 s6 → (∀ s7, Inv X pins (σ6.set i none) H6 s7 → Q s7) →
          wpAny (model X.prog X.w) X.A (do bindName X.env n .none; unbindBehindTheSuite X.env n ps1) (fun _ s7 => Q s7) X.xe s6 := fun {σ6 H6 Q} S6 hq => gone_ok (S6.unsuite ok) nd hi ln hq
      cases f with
      | ret u => obtain ⟨v6, σ6, H6, S6, r6, q6⟩ := hp; exact fin S6 fun s7 J7 => ⟨_, _, _, J7, r6, q6⟩
      | next => obtain ⟨σ6, H6, S6, q6⟩ := hp; exact fin S6 fun s7 J7 => ⟨_, _, J7, q6⟩
      | brk => obtain ⟨σ6, H6, S6, q6⟩ := hp; exact fin S6 fun s7 J7 => ⟨_, _, J7, q6⟩
      | cont => obtain ⟨σ6, H6, S6, q6⟩ := hp; exact fin S6 fun s7 J7 => ⟨_, _, J7, q6⟩
  · cases f with
    | ret u => obtain ⟨v, σ1, H1, J1, r, q⟩ := sp; exact ⟨v, σ1, H1, J1.ofTry ok, r, q⟩
    | next => obtain ⟨σ1, H1, J1, q⟩ := sp; exact wpAny_execs_nil ⟨σ1, H1, J1.ofTry ok, q⟩
    | brk => obtain ⟨σ1, H1, J1, q⟩ := sp; exact ⟨σ1, H1, J1.ofTry ok, q⟩
    | cont => obtain ⟨σ1, H1, J1, q⟩ := sp; exact ⟨σ1, H1, J1.ofTry ok, q⟩
end V1
/-! What was heard of a lambda. -/
namespace V1
open PySem PySem.Spec PyProof.Rows L2 TL LamX
abbrev sHeard : Stmt := topS 39
theorem scHeard : FnScope ["act", "error"] ["act"] (defScope sHeard) := ⟨rfl, rfl, rfl, by decide +kernel, rfl, by decide +kernel, by decide +kernel⟩
/-- what the written part says of the classes in the clauses -/
structure Ey (K : PySem.W.Frag) (mg : PySem.Str → Option Value) (CW CN CP : Addr) : Prop where
  xf : XfC K CW
  no : PySem.W.findIn K (.ref CW) "place" = some none
  ww : PySem.W.exmOne K (.ref CW) (.ref CW) = some true
  nw : PySem.W.exmOne K (.ref CN) (.ref CW) = some false
  nn : PySem.W.exmOne K (.ref CN) (.ref CN) = some true
  gW : mg "Wrong" = some (.ref CW)
  gN : mg "NoVersion" = some (.ref CN)
  gP : mg "PackError" = some (.ref CP)
/-- what heard makes of a reading -/
def TTh (CW CN : Addr) : (XK → Hp → VK → Prop) → Hp → VK → Prop := fun tl H Q => ∃ E : XK, tl E H (fun v H1 => 2 ≤ sizeLine ∧ ∀ p, H1 p = none → Q (.ref p) (upd H1 p (.tup [.str "told", v]))) ∧
  ∀ cls d H1, E cls d H1 → (cls = .ref CW ∧ ∃ dd v, d = some dd ∧ H1 dd = some (.xd [("place", v)]) ∧ ∀ p, H1 p = none → Q (.ref p) (upd H1 p (.tup [.str "wrong", v]))) ∨ (cls = .ref CN ∧ ∀ p, H1 p = none → Q (.ref p) (upd H1 p (.tup [.str "no version"])))
theorem takes_len {X : Cx} {W : WX} {n : Nat} (tk : Takes X W) (hn : X.N.length = n) : Takes X (fun cls d σ H => σ.length = n → W cls d σ H) := by
  rintro u s' ⟨a, B, sI, pins, σ, H, cls, d, e, I, nb, up, sky, na, os, ag, w⟩
  exact tk u s' ⟨a, B, sI, pins, σ, H, cls, d, e, I, nb, up, sky, na, os, ag, w (I.len.trans hn)⟩
theorem heard_gives {X : Cx} {g CW CN CP : Addr} {cdg : Value} {q : PySem.Str} (T : Ey X.K X.mg CW CN CP) : GivesTo X ["act", "error"] "_law_heard" (defScope sHeard) g cdg (defBody sHeard) "act" q (TTh CW CN) := by
  intro f c' s H Q tl act hc ⟨E, h1, h2⟩
  refine ⟨_, pss_one (ps_tryA (X := (cxOf C8.CX0 X.prog X.w X.K X.mg X.base ["act", "error"] "_law_heard" (defScope sHeard) g cdg X.A X.stack s H C8.E0).nox) (c := .ref CW) (i := 1)
      (tb := fun W D σ H => ∃ Ech : XK, (∀ cls d σ' H', σ'.length = 2 → Ech cls d H' → W cls d σ' H') ∧ σ[0]? = some (some (.ref f)) ∧ H c' = some (CodeO c' q) ∧ tl Ech H (fun v H1 => 2 ≤ sizeLine ∧ ∀ p, H1 p = none → D.rt (.ref p) (upd H1 p (.tup [.str "told", v]))))
      rfl rfl scHeard.nd rfl rfl ⟨by rfl, by decide, .inl T.gW⟩ (fun W pn xe tk _ => ?_)
      (fun a oe cls d pn hz hf => pss_one (ps_ret (pe_tup (pa_cons pe_str (pa_cons (pe_xf T.xf T.no hz hf (pv 1)) pa_nil)))))
      (.cons ⟨by rfl, by decide, .inl T.gN⟩ (fun a oe cls d pn hz hf => pss_one (ps_ret (pe_tup (pa_cons pe_str pa_nil)))) (.cons ⟨by rfl, by decide, .inl T.gP⟩ (fun a oe cls d pn hz hf => pss_one (ps_ret (pe_tup (pa_cons pe_str pa_nil)))) .nil))), ?_⟩
  · refine ⟨fun pins s' σ H' D I h' => ?_⟩
    obtain ⟨Ech, hW, e1, e2, e3⟩ := h'
    have hp := fun p1 p2 => act _ pn xe Ech p1 p2 (takes_len (n := 2) tk rfl) (fun cls d σ' H' hE hl => hW cls d σ' H' hl hE)
    exact (pss_one (ps_ret (pe_tup (pa_cons pe_str (pa_cons (hp _ _) pa_nil))))).run pins s' σ H' D I ⟨e1, e2, e3⟩
  · refine ⟨E, fun cls d σ' H' hl hE => ?_, rfl, hc, ?_⟩
    · obtain ⟨x, y, rfl⟩ : ∃ x y, σ' = [x, y] := by
        match σ', hl with
        | [x, y], _ => exact ⟨x, y, rfl⟩
      rcases h2 cls d H' hE with ⟨rfl, dd, v, rfl, hdd, hq⟩ | ⟨rfl, hq⟩
      · exact ⟨true, T.ww, fun _ a na => ⟨.ref a, rfl, rfl, rfl, dd, _, v, rfl, hdd, rfl, by show 2 ≤ sizeLine; decide, fun p np => hq p np⟩, fun z => nomatch z⟩
      · exact ⟨false, T.nw, (fun z => nomatch z), fun _ => ⟨true, T.nn, fun _ a na => ⟨by show 1 ≤ sizeLine; decide, fun p np => hq p np⟩, (fun z => nomatch z)⟩⟩
    · exact h1
end V1
/-! The law's own call, a table of code objects beside. -/
namespace V1
open PySem PySem.Spec PyProof.Rows L2 TL LamX
section
variable {P : Program} {w : World} {K : PySem.W.Frag} {mg mb : PySem.Str → Option Value} {k : Nat} {fa a c T : Addr} {fd : FuncData} {x : PySem.Str} {sp : Sp} {s1 : Shared} {vs : List Value} {ns : List Int}
theorem core_T {H : Hp} (KX : K.In s1.heap) (hns : s1.heap.Ns mainGlobals mg) (hb : s1.heap.Ns builtinsNs mb) (hbb : ∀ x : PySem.Str, x ≠ "__name__" → mb x = bootBuiltins x) (hlim : s1.heap.NoLimit) (hg : s1.gens = #[])
    (hT : s1.heap.get? T = some { cls := .none, data := .fields #[] }) (nT : K.lookup T = none) (hC : PySem.W.CodeHd s1.heap c T)
    (bmod : ∃ (bm : Addr) (ob : Obj), mg "__builtins__" = some (.ref bm) ∧ bm ≠ builtinsNs ∧ s1.heap.get? bm = some ob ∧ ob.cls = .type "module" ∧ ob.dict = some builtinsNs ∧ ob.data = .plain)
    (ha : s1.heap.get? a = some { cls := .type "list", data := .seq vs.toArray }) (hr : Room k callerA)
    (F : ∀ base : Heap, K.In base → base.Ns mainGlobals mg → TabB base mg c T → Ok0 P w K mg base k fa fd [x] sp) (hbind : ∀ (s : Shared) (u : Value), BindsTo s fd ⟨[u], []⟩ [(x, u)])
    (hO : ∀ b, H b = none ∨ b = T ∨ ∃ o xs, H b = some (.frz o (.lst xs))) (hHT : H T = some (.tbl #[])) (hsp : sp [.ref a] H (fun v _ => v = .bl true) fun _ _ _ => False) (hok : HOk P w H s1.heap) (hA : ∀ b, H b ≠ none → b = a ∨ b = T) (hK : H a ≠ none → K.lookup a = none) :
    codeAny (model P w) callerA (.call (.ref fa) ⟨[.ref a], []⟩) (fun r s' => r = .ok (.ret (.bool true)) ∧ OldK s1.heap s'.heap ∧ s'.os = s1.os ∧ AllBare s'.gens) s1 := by
  have free : ∀ {b : Addr} {o : Obj}, s1.heap.get? b = some o → (∀ vs n, o.data ≠ .seq vs n) → o.data ≠ .fields #[] → H b = none := by
    intro b o e h1 h2
    rcases Option.eq_none_or_eq_some (H b) with q | ⟨u, q⟩
    · exact q
    · rcases hA b (by rw [q]; simp) with z | z
      · rw [z, ha] at e; cases e; exact (h1 _ _ rfl).elim
      · rw [z, hT] at e; cases e; exact (h2 rfl).elim
  have dfree : ∀ {b : Addr} {o : Obj} {es : Array DictEntry} {ep : Nat}, s1.heap.get? b = some o → o.data = .dict es ep → H b = none := fun {b o es ep} e d => by
    refine free e (fun vs n z => ?_) (fun z => ?_)
    · rw [d] at z; cases z
    · rw [d] at z; cases z
  have ns' : ∀ {b : Addr} {m : PySem.Str → Option Value}, s1.heap.Ns b m → (hidT s1.heap H).Ns b m := by
    rintro b m ⟨o, es, ep, e, d, r⟩
    exact ⟨o, es, ep, hidT_get e (dfree e d), d, r⟩
  have kin : K.In (hidT s1.heap H) := by
    intro b o e
    refine hidT_get (KX b o e) ?_
    rcases Option.eq_none_or_eq_some (H b) with q | ⟨u, q⟩
    · exact q
    · rcases hA b (by rw [q]; simp) with z | z
      · rw [z] at e q
        rw [hK (by rw [q]; simp)] at e; cases e
      · rw [z, nT] at e; cases e
  obtain ⟨mc, l1, l2⟩ := hlim
  have M : Mod K mg (hidT s1.heap H) := ⟨kin, ns' hns, ⟨mb, ns' hb, hbb⟩, ⟨mc, ns' l1, l2⟩⟩
  have TB : TabB (hidT s1.heap H) mg c T := by
    refine ⟨?_, ?_, fun z => ?_⟩
    · obtain ⟨o, us, file, tf, flags, tg, inF, text, tt, e1, r1, r2, r3, r4, r5, r6, r7, r8, hne⟩ := hC
      refine ⟨o, us, file, tf, flags, tg, inF, text, tt, hidT_get e1 (free e1 (fun vs n z => ?_) (fun z => ?_)), r1, r2, r3, r4, r5, r6, r7, r8, hne⟩
      · rw [r2] at z; cases z
      · rw [r2] at z; cases z; simp at r3
    · obtain ⟨bm, ob, b1, b2, b3, b4, b5, b6⟩ := bmod
      refine ⟨bm, ob, b1, b2, fun q => ?_, fun q => ?_, hidT_get b3 (free b3 (fun vs n z => ?_) (fun z => ?_)), b4, b5, b6⟩
      · obtain ⟨o, es, ep, e, hd, _⟩ := hns
        rw [q, e] at b3; cases b3; rw [hd] at b6; cases b6
      · rw [q, hT] at b3; cases b3; cases b6
      · rw [b6] at z; cases z
      · rw [b6] at z; cases z
    · obtain ⟨o, es, ep, e, hd, _⟩ := hns
      rw [z, hT] at e; cases e; cases hd
  have e0 : Env0 P w K mg (hidT s1.heap H) callerA [] s1 H :=
    { frames := rfl, mod := M, bs := fun b o e => of_hidT e, bsz := Nat.le_of_eq (hidT_size _ _), funs := trivial, frf := fun b hb => (by cases hb), hok := hok, bare := .of_eq hg }
  refine codeAny_mono ((F _ kin (ns' hns) TB).go callerA [] s1 H ⟨[.ref a], []⟩ [.ref a] [.ref a] _ _ rfl hr e0 (hbind s1 (.ref a)) (.cons rfl .nil) hsp) ?_
  intro r s' h
  cases r with
  | error e => exact h.elim
  | ok fl =>
    cases fl with
    | next => exact h.elim
    | brk => exact h.elim
    | cont => exact h.elim
    | ret u =>
      obtain ⟨v, H', os, bare, un, hok', r', q⟩ := h
      obtain rfl : v = .bl true := q
      obtain rfl : u = Value.bool true := r'
      obtain ⟨more, gm⟩ : ∃ more : Array Value, s'.heap.get? T = some { cls := .none, data := .fields more } := by
        obtain ⟨more, z⟩ := un.tbls T #[] hHT
        exact ⟨_, hok' T _ z⟩
      have stay : ∀ b o, b ≠ T → s1.heap.get? b = some o → s'.heap.get? b = some o := by
        intro b o nb e
        rcases Option.eq_none_or_eq_some (H b) with q | ⟨u, q⟩
        · exact un.keep b o e q (by intro z; cases z) (by simp)
        · rcases hO b with z | z | ⟨ob, xs, z⟩
          · rw [q] at z; cases z
          · exact absurd z nb
          · have y1 := (hok b _ z).1
            have y2 := (hok' b _ (un.frzs b ob _ z)).1
            rw [e] at y1; cases y1; exact y2
      refine ⟨rfl, ⟨fun b o e => ?_, fun b o e => ?_⟩, os, bare⟩
      · by_cases z : b = T
        · subst z
          rw [hT] at e; cases e
          exact .inr (.inl ⟨(hC.tab hT).isCodeTable, rfl, #[], more, rfl, by rw [Array.empty_append]; exact gm⟩)
        · exact .inl (stay b o z e)
      · by_cases z : b = T
        · subst z; exact ⟨_, gm⟩
        · exact ⟨o, stay b o z e⟩
theorem end_T (KX : K.In s1.heap) (hns : s1.heap.Ns mainGlobals mg) (hb : s1.heap.Ns builtinsNs mb) (hbb : ∀ x : PySem.Str, x ≠ "__name__" → mb x = bootBuiltins x) (hlim : s1.heap.NoLimit) (hg : s1.gens = #[])
    (hT : s1.heap.get? T = some { cls := .none, data := .fields #[] }) (nT : K.lookup T = none) (hC : PySem.W.CodeHd s1.heap c T)
    (bmod : ∃ (bm : Addr) (ob : Obj), mg "__builtins__" = some (.ref bm) ∧ bm ≠ builtinsNs ∧ s1.heap.get? bm = some ob ∧ ob.cls = .type "module" ∧ ob.dict = some builtinsNs ∧ ob.data = .plain)
    (ha : s1.heap.get? a = some { cls := .type "list", data := .seq vs.toArray }) (hi : IntsAre vs ns) (hl : ns.length ≤ sizeLine) (hr : Room k callerA)
    (F : ∀ base : Heap, K.In base → base.Ns mainGlobals mg → TabB base mg c T → Ok0 P w K mg base k fa fd [x] sp) (hbind : ∀ (s : Shared) (u : Value), BindsTo s fd ⟨[u], []⟩ [(x, u)])
    (hsp : ∀ H : Hp, H T = some (.tbl #[]) → SqL K H a (ns.map V.int) → sp [.ref a] H (fun v _ => v = .bl true) fun _ _ _ => False) :
    codeAny (model P w) callerA (.call (.ref fa) ⟨[.ref a], []⟩) (fun r s' => r = .ok (.ret (.bool true)) ∧ OldK s1.heap s'.heap ∧ s'.os = s1.os ∧ AllBare s'.gens) s1 := by
  have rv := vals_ints hi
  have aT : a ≠ T := fun z => by rw [z, hT] at ha; cases ha
  rcases Option.eq_none_or_eq_some (K.lookup a) with hk | ⟨o, hk⟩
  · let ob : Obj := { cls := .type "list", data := .seq vs.toArray }
    let H : Hp := fun b => if b = a then some (.frz ob (.lst (ns.map V.int))) else if b = T then some (.tbl #[]) else none
    have at_ : H a = some (.frz ob (.lst (ns.map V.int))) := if_pos rfl
    have tb : H T = some (.tbl #[]) := (if_neg fun z => aT z.symm).trans (if_pos rfl)
    have off : ∀ b, b ≠ a → b ≠ T → H b = none := fun b e1 e2 => (if_neg e1).trans (if_neg e2)
    refine core_T (H := H) KX hns hb hbb hlim hg hT nT hC bmod ha hr F hbind ?_ tb (hsp H tb (.inl (.inr ⟨ob, at_⟩))) ?_ ?_ (fun _ => hk)
    · intro b
      by_cases e : b = a
      · exact .inr (.inr ⟨_, _, by rw [e]; exact at_⟩)
      · by_cases e2 : b = T
        · exact .inr (.inl e2)
        · exact .inl (off b e e2)
    · intro b u z
      by_cases e : b = a
      · subst e
        rw [at_] at z; cases z
        exact ⟨ha, by rw [List.length_map]; exact hl, vs, _, rv, ha⟩
      · by_cases e2 : b = T
        · subst e2
          rw [tb] at z; cases z
          exact hT
        · rw [off b e e2] at z; cases z
    · intro b z
      by_cases e : b = a
      · exact .inl e
      · by_cases e2 : b = T
        · exact .inr e2
        · exact absurd (off b e e2) z
  · have e := KX a o hk
    rw [ha] at e; cases e
    have lv : vs.length ≤ sizeLine := by rw [hi.length]; exact hl
    let H : Hp := fun b => if b = T then some (.tbl #[]) else none
    have tb : H T = some (.tbl #[]) := if_pos rfl
    have off : ∀ b, b ≠ T → H b = none := fun b e => if_neg e
    refine core_T (H := H) KX hns hb hbb hlim hg hT nT hC bmod ha hr F hbind (fun b => ?_) tb (hsp H tb (.inr ⟨_, vs.toArray, _, hk, rfl, rfl, rfl, by simpa using lv, by simpa using rv⟩)) (fun b u z => ?_) (fun b z => ?_) (fun z => absurd (off a aT) z)
    · by_cases e2 : b = T
      · exact .inr (.inl e2)
      · exact .inl (off b e2)
    · by_cases e2 : b = T
      · subst e2
        rw [tb] at z; cases z
        exact hT
      · rw [off b e2] at z; cases z
    · by_cases e2 : b = T
      · exact .inr e2
      · exact absurd (off b e2) z
end
/-- the end of a law whose promise wants empty guards, and a table -/
theorem walk_T {l : PySem.W.OpenLaw} {n k : Nat} {q : Program} {loose : List PySem.Str} {XP : (PySem.Str → Option Value) → Heap → Prop} {YP : World → Heap → Prop} {d : DefRec} {K : Params → PySem.W.Frag} {sp : PySem.W.Frag → Addr → Sp} {x : PySem.Str}
    (hn : l.most = some n) (hn2 : n ≤ sizeLine) (hdf : d.params.defaults = []) (hr : Room k callerA) (hY : ∀ (w : World) (h : Heap), YP w h → (K w.params).In h) (hrec : (recsOf q).find? (fun e => e.name == d.name) = some d)
    (F : ∀ (w : World) (mg : PySem.Str → Option Value) (fa : Addr) (h : Heap), (K w.params).In h → h.Ns mainGlobals mg → mg d.name = some (.ref fa) →
      ∃ (fd : FuncData) (c T : Addr), PySem.W.tabIn (K w.params) d.name = some (c, T) ∧ (K w.params).lookup T = none ∧ (∀ (s : Shared) (u : Value), BindsTo s fd ⟨[u], []⟩ [(x, u)]) ∧
        ∀ base : Heap, (K w.params).In base → base.Ns mainGlobals mg → TabB base mg c T → Ok0 l.prog w (K w.params) mg base k fa fd [x] (sp (K w.params) T))
    (hsp : ∀ (K : PySem.W.Frag) (H : Hp) (a T : Addr) (ns : List Int), ns.length ≤ n → H T = some (.tbl #[]) → SqL K H a (ns.map V.int) → sp K T [.ref a] H (fun v _ => v = .bl true) fun _ _ _ => False) :
    PySem.W.WalkO q loose XP YP l.row.toRowW d [] (fun f vs => PySem.call f vs) := by
  refine Att.attach_call hn hdf ?_
  intro w s₀ s₁ mg mb fa o pm cd doc a vs ns G Y ho hd hcd hmg hobj hints hlen hg
  obtain ⟨fd, c, T, ht, nT, hb, hF⟩ := F w mg fa _ (hY w _ Y) G.T.g hmg
  obtain ⟨hC, hT⟩ := PySem.W.tab_of G.T (hY w _ Y) hrec ht
  exact end_T (hY w _ Y) G.T.g G.T.b G.T.builtins G.T.nolimit hg hT nT hC G.T.bmain hobj hints (Nat.le_trans hlen hn2) hr hF hb (fun H hH hS => hsp _ H a T ns hlen hH hS)
end V1
/-! A text with one piece in the place of another, once. -/
namespace V1
open PySem PySem.Builtin PySem.Builtin.Str
theorem gives_rep1 (x y z : PySem.Str) (t u v c : Tok)
    (hf : (u == 0 || v == 0) = false ∧ (u == v) = false ∧ (y == z) = false ∧ tooLong (x.length + (occurrences x y 0 x.length 1).length * z.length) = false) :
    Gives («str.replace» ⟨[.str x t, .str y u, .str z v, .int 1 c], []⟩) (if ((occurrences x y 0 x.length 1).isEmpty || (y.length == 0 && z.length == 0)) = true then .val (.str x t) else .str (glued z (partsBetween x (occurrences x y 0 x.length 1) y.length))) := by
  show Gives (if ((occurrences x y 0 x.length 1).isEmpty || (y.length == 0 && z.length == 0)) = true then (do rule "str.replace.nothing"; ret (.str x t)) else (do
    let one ← isSame (.str y u) (.str z v)
    if one = true then (do rule "str.replace.old-is-new"; ret (.str x t)) else if tooLong (x.length + (occurrences x y 0 x.length 1).length * z.length) = true then unsupported "str.replace:memory" else retStr (glued z (partsBetween x (occurrences x y 0 x.length 1) y.length)))) _
  obtain ⟨h0, huv, hyz, hl⟩ := hf
  cases hc : ((occurrences x y 0 x.length 1).isEmpty || (y.length == 0 && z.length == 0))
  · rw [isSame_str_other y z u v h0 huv hyz, hl]
    exact .of_eq rfl
  · exact .rule (.of_eq rfl)
theorem rep1_len (x y z : PySem.Str) : (glued z (partsBetween x (occurrences x y 0 x.length 1) y.length)).length ≤ x.length + z.length := by
  have h1 := StrLaws.occ_length_le x y 0 x.length 1
  have hy := congrArg PySem.Str.length (StrLaws.glued_between_self x y 1)
  rw [size_glued, length_partsBetween, Nat.add_sub_cancel] at hy
  rw [size_glued, length_partsBetween, Nat.add_sub_cancel]
  have h2 : (occurrences x y 0 x.length 1).length * z.length ≤ 1 * z.length := Nat.mul_le_mul_right _ h1
  omega
theorem call_rep1 {prog : Program} {w : World} {A : Around} {E : Value → Shared → Prop} {s : Shared} {x y z : PySem.Str} {t u v c : Tok} {Q : Value → Shared → Prop} (hu : u ≠ 0) (hv : v ≠ 0) (huv : u ≠ v) (hyz : (y == z) = false) (hb : x.length + z.length ≤ 16777216)
    (hq : ∀ r t' k, r.length ≤ x.length + z.length → Q (.str r t') { s with toks := k }) : wpAny (model prog w) A (call (.builtin "str.replace") [.str x t, .str y u, .str z v, .int 1 c]) Q E s := by
  have hl : tooLong (x.length + (occurrences x y 0 x.length 1).length * z.length) = false := by
    have h1 := StrLaws.occ_length_le x y 0 x.length 1
    have h2 : (occurrences x y 0 x.length 1).length * z.length ≤ 1 * z.length := Nat.mul_le_mul_right _ h1
    unfold tooLong sizeLine
    exact decide_eq_false (by omega)
  refine call_gives F.slot_str_replace (typeIs_str _ _ _) F.entry_str_replace (F.args_str_replace_4 _ _ _ _) (gives_rep1 x y z t u v c ⟨by simp [hu, hv], by simp [huv], hyz, hl⟩) ?_
  have hr := rep1_len x y z
  cases hc : ((occurrences x y 0 x.length 1).isEmpty || (y.length == 0 && z.length == 0))
  · simp only [Bool.false_eq_true, if_false]
    exact ⟨by rw [sizeLine_eq]; omega, hq _ _ _ hr⟩
  · simp only [if_true]
    exact hq x t s.toks (by omega)
end V1
namespace V1
open PySem PySem.Spec PyProof.Rows L2 TL
section
variable {X : Cx}
theorem PETof {e : Expr} {te : TE} (h : PE X e te) : PET X e te := fun pins s σ H Q _ I q => h.run pins s σ H Q I q
/-- s.replace(y, z, 1), a token being out -/
theorem pet_rep1 {ik : Nat} {kx y z : PySem.Str} {j0 j1 j2 : Nat} {p1 c0 c1 c2 apos pos : Pos} (hNk : X.N[ik]? = some kx) (hvk : Vis X.env.scope kx) (hyz : (y == z) = false) (hdk : (kx == ("__debug__" : PySem.Str)) = false := by decide) (hck : (kx == ("__classdict__" : PySem.Str)) = false := by decide)
    (hbase : attributeBase (.Name kx p1) "replace" X.env (eval (.Name kx p1) X.env) = eval (.Name kx p1) X.env := by rfl)
    (hfew : ((backTo pos (starEach [.Constant (.str y) j0 c0, .Constant (.str z) j1 c1, .Constant (.int 1) j2 c2] X.env)).all (fun x => !x.1) && (backToKw pos (keywordEach [] X.env)).all (fun x => x.1.isSome)
      && decide (([.Constant (.str y) j0 c0, .Constant (.str z) j1 c1, .Constant (.int 1) j2 c2] : List Expr).length + ([] : List Keyword).length + (if ([] : List Keyword).isEmpty then 0 else 1) < 30)) = true := by rfl)
    (hline : (apos.endLine == pos.line) = true := by rfl) :
    PET X (.Call (.Attribute (.Name kx p1) "replace" apos) [.Constant (.str y) j0 c0, .Constant (.str z) j1 c1, .Constant (.int 1) j2 c2] [] pos)
      (fun σ H Q => ∃ x, σ[ik]? = some (some (.str x)) ∧ x.length + z.length ≤ 16777216 ∧ ∀ r, r.length ≤ x.length + z.length → Q (.str r) H) := by
  intro pins s σ H Q h0 I ⟨x, hx, hb, q⟩
  refine wpAny_Call_method_late hbase hfew hline rfl (PySem.wpAny_with_toks h0 (wpAny_mono ((pe_var (pos := p1) (i := ik) hNk hvk hdk hck).run pins s σ H (fun v H1 => v = .str x ∧ H1 = H) I ⟨.str x, hx, rfl, rfl⟩) ?_ fun e s1 k _ => k))
  rintro u s1 ⟨v, H1, I1, r1, rfl, rfl⟩ hk
  obtain ⟨t, rfl⟩ := r1
  refine ⟨"str", _, F.plainAttrs_str, F.slot_str_replace, F.type_str_replace, typeIs_str _ _ _, (fun _ e => nomatch e), Calls.callWith_builtin rfl (Calls.evalArgs_plain ?_)⟩
  show wpAny _ _ (spliced ((false, eval (.Constant (.str y) j0 c0) X.env) :: backTo pos (starEach [.Constant (.str z) j1 c1, .Constant (.int 1) j2 c2] X.env))) _ _ _
  refine Calls.spliced_cons (Calls.Constant_str ?_)
  show wpAny _ _ (spliced ((false, eval (.Constant (.str z) j1 c1) X.env) :: backTo pos (starEach [.Constant (.int 1) j2 c2] X.env))) _ _ _
  refine Calls.spliced_cons (Calls.Constant_str ?_)
  show wpAny _ _ (spliced ((false, eval (.Constant (.int 1) j2 c2) X.env) :: backTo pos (starEach [] X.env))) _ _ _
  refine Calls.spliced_cons (wpAny_Constant_int ?_)
  refine Calls.spliced_nil (call_rep1 (by show s1.toks ≠ 0; omega) (by show s1.toks + 1 ≠ 0; omega) (by show s1.toks ≠ s1.toks + 1; omega) hyz hb fun r t' k hr => ?_)
  exact ⟨.str r, H1, I1.tok k, ⟨t', rfl⟩, q r hr⟩
/-- a list whose first items are plain, then one that gives a token out -/
theorem pa_tok {a : Expr} {es : List Expr} {ta : TE} {tr : TA} {c : PySem.Str} {j : Nat} {cp pos : Pos} {r : R2} (ho : OpR X (binaryOp .Add) r) (ha : PE X a ta) (hr : PAT X es tr)
    (hs : starEach (.BinOp a .Add (.Constant (.str c) j cp) pos :: es) X.env = (false, eval (.BinOp a .Add (.Constant (.str c) j cp) pos) X.env) :: starEach es X.env := by rfl) :
    PA X (.BinOp a .Add (.Constant (.str c) j cp) pos :: es) (tCons (tOp r ta (tC (.str c))) tr) := by
  constructor
  intro pos2 pins s σ H Q I h
  rw [hs]
  show wpAny _ _ (spliced ((false, eval (.BinOp a .Add (.Constant (.str c) j cp) pos) X.env) :: backTo pos2 (starEach es X.env))) _ _ s
  refine Calls.spliced_cons ?_
  refine wpAny_mono (Q := fun v s1 => EP X pins σ (fun x H1 => tr σ H1 fun xs H2 => Q (x :: xs) H2) v s1 ∧ 1 ≤ s1.toks) ?_ (fun v s1 hv => ?_) fun e s1 he => he
  · refine wpAny_BinOp (thn (ha.run pins s σ H _ I h) fun v s1 ⟨x, H1, I1, r1, q1⟩ => ?_)
    refine Calls.Constant_str ?_
    refine wpAny_mono (PySem.wpAny_toks (ho pins { s1 with toks := s1.toks + 1 } σ H1 x (.str c) v (.str c s1.toks) _ (I1.tok _) r1 ⟨_, rfl⟩ q1)) (fun v2 s2 q => ?_) fun e s2 z => z.2
    exact ⟨q.2, by have := q.1; show 1 ≤ s2.toks; have h9 : s1.toks + 1 ≤ s2.toks := q.1; omega⟩
  · obtain ⟨⟨x, H1, I1, r1, q1⟩, hk⟩ := hv
    exact thn (hr pos2 pins s1 σ H1 _ hk I1 q1) fun us s2 ⟨xs, H2, I2, r2, q2⟩ => ⟨x :: xs, H2, I2, .cons r1 r2, q2⟩
end
end V1
/-! A text near that of a version. -/
namespace V1
open PySem PySem.Spec PyProof.Rows L2 TL
abbrev sNear : Stmt := topS 37
theorem scNear : FnScope ["bag", "version", "said", "part", "some"] ["bag", "version"] (defScope sNear) := ⟨rfl, rfl, rfl, by decide +kernel, rfl, by decide +kernel, by decide +kernel⟩
/-- a text, not too long -/
def Tx (v : V) : Prop := ∃ x : PySem.Str, v = .str x ∧ x.length ≤ 5000
theorem said_len {ns : List Int} (h : Vs ns) : (said ns).length ≤ 30 := by
  have j := StrLaws.join_length_le Dot (ns.map num)
  rw [← join_eq] at j
  obtain ⟨l, k⟩ := h
  obtain ⟨a, b, c, rfl⟩ : ∃ a b c, ns = [a, b, c] := by
    match ns, l with
    | [a, b, c], _ => exact ⟨a, b, c, rfl⟩
  have h1 := (num_ok (k a (by simp))).2.2.1
  have h2 := (num_ok (k b (by simp))).2.2.1
  have h3 := (num_ok (k c (by simp))).2.2.1
  have hd : Dot.length = 1 := by decide +kernel
  simp only [List.map_cons, List.map_nil, List.sum_cons, List.sum_nil, List.length_cons, List.length_nil, hd] at j
  show (Txt.join Dot [num a, num b, num c]).length ≤ 30
  omega
theorem cat_len (x y : PySem.Str) : (x ++ y).length = x.length + y.length := by
  rw [len_tl, tl_append, List.length_append, ← len_tl, ← len_tl]
section
variable {P : Program} {w : World} {K : PySem.W.Frag} {mg : PySem.Str → Option Value} {base : Heap}
def spNear : Sp := fun vs H Q _ => ∃ b p ns, vs = [.ref b, .ref p] ∧ Bag H b ∧ H p = some (.tup (ns.map V.int)) ∧ Vs ns ∧ p ≠ b ∧ ∀ H' x, Chb b H H' → Bag H' b → x.length ≤ 5000 → Q (.str x) H'
theorem ok_near {f fS fO fT : Addr} {fd fdS fdO fdT : FuncData} {k : Nat} (F : Fun K "_law_near_text" "_law_near_text" sNear f fd) (FS : Fun K "_law_said" "_law_said" sSaid fS fdS) (bS : Binds K fdS ["version"] []) (gS : mg "_law_said" = some (.ref fS))
    (FO : Fun K "_law_one" "_law_one" sOne fO fdO) (bO : Binds K fdO ["bag", "things"] []) (gO : mg "_law_one" = some (.ref fO)) (FT : Fun K "_law_take" "_law_take" sTake fT fdT) (bT : Binds K fdT ["bag", "many"] []) (gT : mg "_law_take" = some (.ref fT))
    (mT : mg "str" = none) (mI : mg "int" = none) (mL : mg "len" = none) : FnOk P w K mg base CX0 (k + 3) f fd ["bag", "version"] spNear := by
  have GS : FnOk P w K mg base CX0 (k + 1) fS fdS ["version"] spSaid := ok_said FS mT
  have GO : FnOk P w K mg base CX0 (k + 2) fO fdO ["bag", "things"] spOne := ok_one FO FT bT gT mI mL
  refine F.ok scNear (fun vs H Q E h => ?_) (fun cdv A outer s H vs Q E hr h => ?_)
  · obtain ⟨b, p, ns, rfl, _⟩ := h
    rfl
  · obtain ⟨b, p, ns, rfl, hB, hp, hv, pb, q⟩ := h
    have hr1 : Room (k + 1) _ := hr.mono (show k + 1 ≤ k + 2 by omega)
    refine ⟨_, pss_cons (ps_par (i := 2) (j := 3) rfl scNear.nd rfl rfl (by decide) rfl rfl (pa_cons (pe_call GS hr1 (by rfl) gS FS.kp bS .nil pass0 (pa_cons (pv 1) pa_nil)) (pa_cons (pe_callTy call_str_int (by rfl) mT (by decide +kernel) (pa_cons (pe_ix ix_tup (pv 1) pe_int (fun _ _ => rfl)) pa_nil)) pa_nil)) (by rfl))
      (C8.pss_cut (ps_set (i := 4) scNear.nd rfl (.inl rfl) (pe_lst (pa_cons (pv 2) (pa_cons (pv 2) (pa_tok op_add_str (pv 2) (pat_cons (PETof (pe_slice sl_str (pv 2) po_none (po_some (pe_un un_neg pe_int)))) (pat_cons (PETof (pe_op op_add_str pe_str (pv 2))) (pat_cons (PETof (pe_op op_add_str (pv 2) pe_str)) (pat_cons (PETof (pe_op op_add_str pe_str (pv 2))) (pat_cons (pet_rep1 (ik := 2) rfl (by first | exact .inl rfl | exact .inr (.inl rfl)) (by decide +kernel)) (pat_cons (PETof (pv 3)) pat_nil)))))))))))
      (C8.pss_cut (ps_set (i := 4) scNear.nd rfl (.inl rfl) (pe_op op_cat (pv 4) (pe_lst (pa_cons pe_str (pa_cons pe_str (pa_cons pe_str (pa_cons pe_str (pa_cons pe_str (pa_cons pe_str (pa_cons pe_str (pa_cons pe_str (pa_cons pe_str pa_nil))))))))))))
      (C8.pss_cut (ps_set (i := 4) scNear.nd rfl (.inl rfl) (pe_op op_cat (pv 4) (pe_lst (pa_cons (pe_op op_add_str (pe_op op_mulS pe_str pe_int) pe_str) (pa_cons (pe_op op_add_str (pe_op op_add_str pe_str (pe_op op_mulS pe_str pe_int)) pe_str) pa_nil)))))
      (pss_one (ps_ret (pe_call GO hr (by rfl) gO FO.kp bO .nil pass0 (pa_cons (pv 0) (pa_cons (pe_op op_cat (pv 4) (pe_lst (pa_cons (pe_op op_add_str (pv 2) pe_str) (pa_cons pe_str (pa_cons pe_str (pa_cons (pe_slice sl_str (pv 2) (po_some pe_int) po_none) (pa_cons pe_str (pa_cons pe_str pa_nil)))))))) pa_nil)))))))), ?_⟩
    have lx := said_len hv
    have fit : ∀ y : PySem.Str, y.length ≤ 5000 → (said ns).length + y.length ≤ sizeLine ∧ y.length + (said ns).length ≤ sizeLine := fun y hy => ⟨by rw [sizeLine_eq]; omega, by rw [sizeLine_eq]; omega⟩
    have fx : (said ns).length ≤ sizeLine := by rw [sizeLine_eq]; omega
    have b0 := hv.bd (k := 0) (by decide)
    have lit : ∀ y : PySem.Str, y.length ≤ 5000 → Tx (.str y) := fun y hy => ⟨y, rfl, hy⟩
    have two : ∀ y z : PySem.Str, y.length ≤ 4500 → z.length ≤ 400 → Tx (.str (y ++ z)) := fun y z h1 h2 => ⟨_, rfl, by rw [cat_len]; omega⟩
    refine ⟨.ref p, rfl, p, ns, rfl, hp, hv, fun H1 s1 => ⟨.ref p, rfl, p, ns.map V.int, 0, .int (ns.getD 0 0), rfl, rfl, .inl (.inl (s1 _ _ hp)), hv.at_ (k := 0) (by decide), ns.getD 0 0, rfl, int_log b0, _, _, rfl, ?_⟩⟩
    have lp : (PySem.Str.ofString (toString (ns.getD 0 0))).length ≤ 6 := (num_ok b0).2.2.1
    generalize said ns = x at lx fit fx ⊢
    generalize PySem.Str.ofString (toString (ns.getD 0 0)) = pt at lp ⊢
    -- the first list
    refine ⟨fun σ' H' => ∃ l vs, σ' = [some (.ref b), some (.ref p), some (.str x), some (.str pt), some (.ref l)] ∧ Same H H' ∧ H' l = some (.lst vs) ∧ (∀ v ∈ vs, Tx v) ∧ vs.length = 9, ?_, ?_⟩
    · refine ⟨.str x, rfl, .str x, rfl, .str x, rfl, x, ".0", rfl, rfl, (fit ".0" (by decide +kernel)).1, .str x, rfl, 1, rfl, -1, rfl, x, rfl, fx, .str x, rfl, "0", x, rfl, rfl, (fit "0" (by decide +kernel)).2, .str x, rfl, x, " ", rfl, rfl, (fit " " (by decide +kernel)).1,
        .str x, rfl, "v", x, rfl, rfl, (fit "v" (by decide +kernel)).2, x, rfl, ?_, fun r hr => ⟨.str pt, rfl, by show 9 ≤ sizeLine; decide, fun l nl => ⟨l, _, rfl, s1.trans (new_same nl), upd_same, ?_, rfl⟩⟩⟩
      · have : ("," : PySem.Str).length = 1 := by decide +kernel
        rw [this]
        omega
      · have h1 : ("," : PySem.Str).length = 1 := by decide +kernel
        rw [h1] at hr
        have k1 : ∀ y : PySem.Str, y.length ≤ 400 → Tx (.str (x ++ y)) := fun y hy => two _ _ (by omega) hy
        have k2 : ∀ y : PySem.Str, y.length ≤ 400 → Tx (.str (y ++ x)) := fun y hy => two _ _ (by omega) (by omega)
        exact all_cons (lit x (by omega)) (all_cons (lit x (by omega)) (all_cons (k1 ".0" (by decide +kernel)) (all_cons (lit _ (Nat.le_trans (cutS_length _ _ _) (by omega))) (all_cons (k2 "0" (by decide +kernel)) (all_cons (k1 " " (by decide +kernel)) (all_cons (k2 "v" (by decide +kernel))
          (all_cons (lit r (by omega)) (all_cons (lit pt (by omega)) fun v hv => by cases hv))))))))
    rintro σ' H2 ⟨l1, v1, rfl, s2, hl1, t1, n1⟩
    refine ⟨fun σ' H' => ∃ l vs, σ' = [some (.ref b), some (.ref p), some (.str x), some (.str pt), some (.ref l)] ∧ Same H H' ∧ H' l = some (.lst vs) ∧ (∀ v ∈ vs, Tx v) ∧ vs.length = 18, ?_, ?_⟩
    · refine ⟨.ref l1, rfl, by show 9 ≤ sizeLine; decide, fun u nu => ⟨l1, u, v1, _, rfl, rfl, new_ne hl1 nu, upd_same, by rw [n1]; show 18 ≤ sizeLine; decide, fun m nm => ⟨m, _, rfl, s2.trans ((new_same nu).trans (new_same nm)), upd_same, fun v hv => ?_, by rw [List.length_append, n1]; rfl⟩⟩⟩
      rcases List.mem_append.mp hv with e | e
      · exact t1 v e
      · exact (all_cons (lit "1000000.0.0" (by decide +kernel)) (all_cons (lit "999999.0.0" (by decide +kernel)) (all_cons (lit "1.-1.0" (by decide +kernel)) (all_cons (lit "+1.2.3" (by decide +kernel)) (all_cons (lit "1..2" (by decide +kernel)) (all_cons (lit ".1.2" (by decide +kernel)) (all_cons (lit "1.2." (by decide +kernel)) (all_cons (lit "1_0.0.0" (by decide +kernel)) (all_cons (lit "1.2.03" (by decide +kernel)) (fun v hv => by cases hv)))))))))) v e
    rintro σ' H3 ⟨l2, v2, rfl, s3, hl2, t2, n2⟩
    have mul1 : (Txt.mul "1" 4400).length ≤ 4400 := by
      have := len_mul_leN (x := "1") (n := 4400) (L := 1) (N := 4400) (by decide +kernel) (by decide)
      omega
    have mul9 : (Txt.mul "9" 4400).length ≤ 4400 := by
      have := len_mul_leN (x := "9") (n := 4400) (L := 1) (N := 4400) (by decide +kernel) (by decide)
      omega
    have l00 : (".0.0" : PySem.Str).length = 4 := by decide +kernel
    have l0 : ("0." : PySem.Str).length = 2 := by decide +kernel
    have l20 : (".0" : PySem.Str).length = 2 := by decide +kernel
    refine ⟨fun σ' H' => ∃ l vs, σ' = [some (.ref b), some (.ref p), some (.str x), some (.str pt), some (.ref l)] ∧ Same H H' ∧ H' l = some (.lst vs) ∧ (∀ v ∈ vs, Tx v) ∧ vs.length = 20, ?_, ?_⟩
    · refine ⟨.ref l2, rfl, "1", 4400, rfl, rfl, mulOk_of 1 4400 (by decide +kernel) (by decide) (by decide) (by decide) (by decide), Txt.mul "1" 4400, ".0.0", rfl, rfl, by rw [sizeLine_eq]; omega,
        "9", 4400, rfl, rfl, mulOk_of 1 4400 (by decide +kernel) (by decide) (by decide) (by decide) (by decide), "0.", Txt.mul "9" 4400, rfl, rfl, by rw [sizeLine_eq]; omega, "0." ++ Txt.mul "9" 4400, ".0", rfl, rfl, by rw [sizeLine_eq, cat_len]; omega, by show 2 ≤ sizeLine; decide, fun u nu => ?_⟩
      refine ⟨l2, u, v2, _, rfl, rfl, new_ne hl2 nu, upd_same, by rw [n2]; show 20 ≤ sizeLine; decide, fun m nm => ⟨m, _, rfl, s3.trans ((new_same nu).trans (new_same nm)), upd_same, fun v hv => ?_, by rw [List.length_append, n2]; rfl⟩⟩
      rcases List.mem_append.mp hv with e | e
      · exact t2 v e
      · exact (all_cons (two _ _ (by omega) (by omega)) (all_cons (two _ _ (by rw [cat_len]; omega) (by omega)) fun v hv => by cases hv)) v e
    rintro σ' H4 ⟨l3, v3, rfl, s4, hl3, t3, n3⟩
    obtain ⟨ob, hb⟩ := hB.lst
    refine ⟨.ref b, rfl, .ref l3, rfl, .str x, rfl, x, "0", rfl, rfl, (fit "0" (by decide +kernel)).1, .str x, rfl, 1, rfl, x, rfl, fx, by show 6 ≤ sizeLine; decide, fun u nu => ⟨l3, u, v3, _, rfl, rfl, new_ne hl3 nu, upd_same, by rw [n3]; show 26 ≤ sizeLine; decide, fun m nm => ?_⟩⟩
    have sm := s4.trans ((new_same (o := .lst [.str (x ++ ("0" : PySem.Str)), .str "1.2.3\n", .str "0000001.0.0", .str (cutS x (some 1) none), .str "", .str "a.b.c"]) nu).trans (new_same (o := .lst (v3 ++ [.str (x ++ ("0" : PySem.Str)), .str "1.2.3\n", .str "0000001.0.0", .str (cutS x (some 1) none), .str "", .str "a.b.c"])) nm))
    have mb : m ≠ b := (ne_of_none (new_ne (s4 _ _ hb) nu) nm).symm
    refine ⟨b, m, v3 ++ [.str (x ++ ("0" : PySem.Str)), .str "1.2.3\n", .str "0000001.0.0", .str (cutS x (some 1) none), .str "", .str "a.b.c"], rfl, hB.same sm, upd_same, mb, by simp, by rw [List.length_append, n3]; show 26 ≤ 1000; decide, fun H9 v c9 B9 hv => ?_⟩
    have tv : Tx v := by
      rcases List.mem_append.mp hv with e | e
      · exact t3 v e
      · exact (all_cons (two x "0" (by omega) (by decide +kernel)) (all_cons (lit _ (by decide +kernel)) (all_cons (lit _ (by decide +kernel)) (all_cons (lit _ (Nat.le_trans (cutS_length _ _ _) (by omega))) (all_cons (lit _ (by decide +kernel)) (all_cons (lit _ (by decide +kernel)) fun v hv => by cases hv)))))) v e
    obtain ⟨y, rfl, hy⟩ := tv
    exact q H9 y ((Chb.same sm).trans c9) B9 hy
end
end V1
/-! What is told and due: data, what it prints as. -/
namespace V1
open PySem PySem.Spec PyProof.Rows L2 TL LamX
/-- a def's promise where nothing is being printed, its code object known -/
theorem Ok0.mk_at {P : Program} {w : World} {K : PySem.W.Frag} {mg : PySem.Str → Option Value} {base : Heap} {k : Nat} {f : Addr} {x qual : PySem.Str} {st : Stmt} {N ps : List PySem.Str} {sp : Sp} {oc : Value} {od an : Option Addr} {osl : Array (Option Value)} {kV doc pm cdv ct : Value}
    (lk : K.lookup f = some ⟨oc, od, .func (PySem.W.fnOf x qual (defArgs st) (defBody st) (defScope st) .none kV doc pm an cdv ct), osl⟩) (hcd : PySem.W.codeIn K cdv qual = true) (S : FnScope N ps (defScope st))
    (cnt : ∀ vs H Q E, sp vs H Q E → vs.length = ps.length)
    (body : ∀ (A : Around) (outer : List Env) (s : Shared) (H : Hp) (vs : List V) (Q : VK) (E : XK), A.guards = some [] →
      Room k (A.deeper (envOfC qual (defScope st) s.heap.objs.size f cdv)) → sp vs H Q E →
      ∃ t, PSs (cxOf CX0 P w K mg base N qual (defScope st) f cdv A outer s H E).nox (defBody st) t ∧ t { nx := fun _ H' => Q .non H', rt := Q } (start N vs) H) :
    Ok0 P w K mg base (k + 1) f (PySem.W.fnOf x qual (defArgs st) (defBody st) (defScope st) .none kV doc pm an cdv ct) ps sp := by
  refine ⟨cnt, ?_⟩
  intro A outer s H args us vs Q E hgd hr e0 hb r hsp
  have kept : ∀ b o, base.get? b = some o → s.heap.get? b = some o := fun b o e => (e0.bs b o e).1
  have KX : K.In s.heap := e0.mod.kin.keeps kept
  have par : ∀ y ∈ ps.zip us, (defScope st).names.lookup y.1 = some .local ∨
      ((defScope st).names.lookup y.1 = some .cell ∧ ((cellsFrom (s.heap.objs.size + 1) (defScope st).names []).lookup y.1).isSome = true) := by
    rintro ⟨n, v⟩ hy
    rcases S.par n (List.of_mem_zip hy).1 with q | q
    · exact .inl q
    · exact .inr ⟨q, PySem.W.cellsFrom_some _ _ _ (.inl q)⟩
  have entry := hb
  refine codeAny_call_function hr.depth (KX _ _ lk) rfl S.co S.gen rfl (PySem.W.codeRec_of KX hcd) (entry _ _ _ _ ?_)
  refine wpAny_newFunctionEnv_cells S.kind par ?_
  intro env he s1 x
  subst he
  refine ⟨(e0.mod.nolimit.keeps kept).keeps x.toInCall.keep, codeAny_func ?_⟩
  obtain ⟨t, ht, hq⟩ := body A outer s H vs Q E hgd (hr.deeper _) hsp
  have I := inv_start (CX := CX0) (E := E) S hr.hd e0 (cnt _ _ _ _ hsp) r x
  have fin : ∀ {σ' : L2.St} {s' : Shared} {H' : Hp} {v : V} {u : Value},
      Inv (cxOf CX0 P w K mg base N qual (defScope st) f cdv A outer s H E) [] σ' H' s' → RelV v u → Q v H' → CE outer P w H s Q u s' := by
    intro σ' s' H' v u J rv q
    exact ⟨v, H', J.os, J.bare, J.base, J.hok, rv, q⟩
  refine wpAny_mono (ht.nox.run [] s1 (start N vs) H _ I hq) ?_ (fun e s' hs => hs)
  intro fl s' hs
  cases fl with
  | ret u => obtain ⟨v, σ', H', J, rv, q⟩ := hs; exact fin J rv q
  | next => obtain ⟨σ', H', J, q⟩ := hs; exact fin (v := V.non) (u := Value.none) J rfl q
  | brk => obtain ⟨_, _, _, q⟩ := hs; exact q.elim
  | cont => obtain ⟨_, _, _, q⟩ := hs; exact q.elim
theorem shw_lst {H : Hp} {vs : List V} {d : Nat} {as : List Addr} {ts : List PySem.Str} {c : Nat} {p : Addr} (s : Shw H vs d as ts c) (n : H p = none) : Shw (upd H p (.lst vs)) [.ref p] (d + 1) ((p :: as) ++ []) [listText ts] (10 + c + 0) :=
  .lst upd_same (s.keep fun b _ o e => new_ne e n) (s.fresh n) .nil
theorem shw_tup {H : Hp} {vs : List V} {d : Nat} {as : List Addr} {ts : List PySem.Str} {c : Nat} {p : Addr} (s : Shw H vs d as ts c) (n : H p = none) : Shw (upd H p (.tup vs)) [.ref p] (d + 1) ((p :: as) ++ []) [tupleText ts] (10 + c + 0) :=
  .tup upd_same (s.keep fun b _ o e => new_ne e n) (s.fresh n) .nil
def vt (ns : List Int) : PySem.Str := tupleText (ns.map fun n => PySem.Str.ofString (toString n))
theorem ver_shw {H : Hp} {a : Addr} {ns : List Int} (hv : Vs ns) (h : H a = some (.tup (ns.map V.int))) : Shw H [.ref a] 1 ([a] ++ []) [vt ns] 220 := by
  obtain ⟨l, k⟩ := hv
  obtain ⟨x, y, z, rfl⟩ : ∃ a b c, ns = [a, b, c] := by
    match ns, l with
    | [a, b, c], _ => exact ⟨a, b, c, rfl⟩
  have h1 := k x (by simp)
  have h2 := k y (by simp)
  have h3 := k z (by simp)
  exact .tup (d := 0) (bs := []) h (.int x (by omega) (.int y (by omega) (.int z (by omega) .nil))) (by simp) .nil
def od : Option (List Int) → PyData | none => .none | some l => .tuple (l.map PyData.int)
def ot : Option (List Int) → PySem.Str | none => "None" | some l => vt l
theorem dp_ints {K : PySem.W.Frag} {H : Hp} : ∀ ns : List Int, DpAll K H (ns.map V.int) (ns.map PyData.int)
  | [] => .nil
  | n :: ns => .cons (.int n) (dp_ints ns)
theorem OV.dp {K : PySem.W.Frag} {H : Hp} {v : V} {o : Option (List Int)} (h : OV H v o) : Dp K H v (od o) := by
  cases o with
  | none => obtain rfl : v = .non := h; exact .non
  | some l =>
    obtain ⟨a, rfl, ha⟩ := h
    exact .tup (.inl (.inl ha)) (dp_ints l)
theorem OV.shw {H : Hp} {v : V} {o : Option (List Int)} (h : OV H v o) (hv : ∀ l, o = some l → Vs l) : ∃ as c, Shw H [v] 1 as [ot o] c ∧ c ≤ 220 := by
  cases o with
  | none => obtain rfl : v = .non := h; exact ⟨_, _, .non .nil, by decide⟩
  | some l =>
    obtain ⟨a, rfl, ha⟩ := h
    exact ⟨_, _, ver_shw (hv l rfl) ha, Nat.le_refl _⟩
theorem rsd_vs {ns l : List Int} {k : Nat} (h : Vs ns) (hk : k < 3) (e : rsd ns k = some l) : Vs l := by
  unfold rsd at e
  split at e
  · cases e
  · rename_i z
    cases e
    have b := h.bd hk
    obtain ⟨ln, lk⟩ := h
    refine ⟨?_, fun n hn => ?_⟩
    · simp only [List.length_append, List.length_take, List.length_replicate, List.length_cons, List.length_nil, ln]
      omega
    · rcases List.mem_append.mp hn with m | m
      · rcases List.mem_append.mp m with m | m
        · exact lk n (List.mem_of_mem_take m)
        · rw [List.mem_singleton] at m
          subst m
          omega
      · obtain ⟨_, rfl⟩ := List.mem_replicate.mp m
        exact ⟨by decide, by decide⟩
theorem aft_vs {ns l : List Int} (h : Vs ns) (e : aft ns = some l) : Vs l := by
  unfold aft at e
  split at e
  · rename_i l' e'
    cases e
    exact rsd_vs h (by decide) e'
  · split at e
    · rename_i l' e'
      cases e
      exact rsd_vs h (by decide) e'
    · exact rsd_vs h (by decide) e
theorem said_signs {ns : List Int} (h : Vs ns) : ∀ c ∈ (said ns).cps.toList, c = 46 ∨ (48 ≤ c ∧ c ≤ 57) := by
  obtain ⟨l, k⟩ := h
  obtain ⟨x, y, z, rfl⟩ : ∃ a b c, ns = [a, b, c] := by
    match ns, l with
    | [a, b, c], _ => exact ⟨a, b, c, rfl⟩
  have dg : ∀ n : Int, 0 ≤ n ∧ n < 1000000 → ∀ c ∈ tl (num n), 48 ≤ c ∧ c ≤ 57 := fun n hn c hc => by
    obtain ⟨m, rfl⟩ : ∃ m : Nat, n = (m : Int) := ⟨n.toNat, by omega⟩
    have et : tl (num (m : Int)) = numL m := tl_num m
    rw [et] at hc
    exact numL_digits m c hc
  intro c hc
  have e : tl (said [x, y, z]) = tl (num x) ++ ([46] ++ (tl (num y) ++ ([46] ++ tl (num z)))) := by
    unfold said
    rw [join_eq, tl_join, tl_dot]
    rfl
  have hc' : c ∈ tl (said [x, y, z]) := hc
  rw [e] at hc'
  simp only [List.mem_append, List.mem_singleton] at hc'
  rcases hc' with m | m | m | m | m
  · exact .inr (dg x (k x (by simp)) c m)
  · exact .inl m
  · exact .inr (dg y (k y (by simp)) c m)
  · exact .inl m
  · exact .inr (dg z (k z (by simp)) c m)
theorem said_shw {H : Hp} {ns : List Int} (h : Vs ns) : Shw H [.str (said ns)] 1 [] [reprText (said ns)] (1010 + 0) := .str _ (by have := said_len h; omega) (fun k hk => by
  rcases said_signs h k hk with e | e <;> omega) .nil
theorem said_ok {ns : List Int} (h : Vs ns) : PyData.canLay0 (.str (said ns)) = true := by
  show ((said ns).cps.all fun c => decide (c < 0x110000)) = true
  rw [← Array.all_toList, List.all_eq_true]
  intro c hc
  rcases said_signs h c hc with e | e <;> exact decide_eq_true (by omega)
theorem od_lay (o : Option (List Int)) : PyData.canLay0 (od o) = true := by
  cases o with
  | none => rfl
  | some l =>
    have all : ∀ l : List Int, PyData.canLayAll0 (l.map PyData.int) = true := by
      intro l
      induction l with
      | nil => rfl
      | cons x l ih => exact ih
    exact all l
theorem od_deep (o : Option (List Int)) : PyData.depth (od o) ≤ 1 := by
  cases o with
  | none => exact Nat.zero_le _
  | some l =>
    have all : ∀ l : List Int, PyData.depthAll (l.map PyData.int) = 0 := by
      intro l
      induction l with
      | nil => rfl
      | cons x l ih =>
        show max 0 (PyData.depthAll (l.map PyData.int)) = 0
        rw [ih]
        rfl
    show PyData.depthAll (l.map PyData.int) + 1 ≤ 1
    rw [all]
    exact Nat.le_refl _
/-- what is told of a version at a place -/
def dTold (ns : List Int) (k : Nat) : PyData := .list [od (aft ns), od (rsd ns k), .str (said ns), od (some ns)]
theorem dTold_ok {ns : List Int} (h : Vs ns) (k : Nat) : SeqAt.shaped (dTold ns k) = true := by
  unfold SeqAt.shaped dTold
  rw [Bool.and_eq_true]
  constructor
  · show (PyData.canLay0 (od (aft ns)) && (PyData.canLay0 (od (rsd ns k)) && (PyData.canLay0 (.str (said ns)) && (PyData.canLay0 (od (some ns)) && true)))) = true
    rw [od_lay, od_lay, said_ok h, od_lay]
    rfl
  · refine decide_eq_true ?_
    have a := od_deep (aft ns)
    have b := od_deep (rsd ns k)
    have c := od_deep (some ns)
    show max (PyData.depth (od (aft ns))) (max (PyData.depth (od (rsd ns k))) (max 0 (max (PyData.depth (od (some ns))) 0))) + 1 ≤ 64
    omega
/-- what is heard -/
def dHeard : Option (List Int) → PyData | none => .tuple [.str "no version"] | some l => .tuple [.str "told", od (some l)]
theorem dHeard_ok (o : Option (List Int)) : SeqAt.shaped (dHeard o) = true := by
  cases o with
  | none => decide +kernel
  | some l =>
    unfold SeqAt.shaped dHeard
    rw [Bool.and_eq_true]
    constructor
    · show (PyData.canLay0 (.str "told") && (PyData.canLay0 (od (some l)) && true)) = true
      rw [od_lay]
      decide +kernel
    · refine decide_eq_true ?_
      have c := od_deep (some l)
      show max 0 (max (PyData.depth (od (some l))) 0) + 1 ≤ 64
      omega
def tHeard : Option (List Int) → PySem.Str | none => tupleText [reprText "no version"] | some l => tupleText [reprText "told", vt l]
theorem short_str {H : Hp} (y : PySem.Str) (d : Nat) (h : y.length ≤ 100) (hc : ∀ k ∈ y.cps.toList, k < 16 ^ 8) : Shw H [.str y] d [] [reprText y] (1010 + 0) := .str y h hc .nil
/-- a tuple that tells it, new -/
theorem heard_none {K : PySem.W.Frag} {H : Hp} {p : Addr} (n : H p = none) : Dp K (upd H p (.tup [.str "no version"])) (.ref p) (dHeard none) ∧ ∃ as c, Shw (upd H p (.tup [.str "no version"])) [.ref p] 2 as [tHeard none] c ∧ c ≤ 2000 :=
  ⟨.tup (.inl (.inl upd_same)) (.cons (.str _) .nil), _, _, shw_tup (short_str "no version" 1 (by decide +kernel) (ofs_ok _)) n, by decide⟩
theorem heard_some {K : PySem.W.Frag} {H : Hp} {p a : Addr} {l : List Int} (hv : Vs l) (ha : H a = some (.tup (l.map V.int))) (n : H p = none) : Dp K (upd H p (.tup [.str "told", .ref a])) (.ref p) (dHeard (some l)) ∧ ∃ as c, Shw (upd H p (.tup [.str "told", .ref a])) [.ref p] 2 as [tHeard (some l)] c ∧ c ≤ 2000 :=
  ⟨.tup (.inl (.inl upd_same)) (.cons (.str _) (.cons (.tup (.inl (.inl (new_ne ha n))) (dp_ints l)) .nil)), _, _, shw_tup ((short_str "told" 1 (by decide +kernel) (ofs_ok _)).cons1 (ver_shw hv ha)) n, by decide⟩
/-- ("wrong", 0) -/
theorem wrong_dp {K : PySem.W.Frag} {H : Hp} {p : Addr} (h : H p = some (.tup [.str "wrong", .int 0])) : Dp K H (.ref p) (.tuple [.str "wrong", .int 0]) := .tup (.inl (.inl h)) (.cons (.str _) (.cons (.int 0) .nil))
theorem wrong_shw {H : Hp} {p : Addr} (h : H p = some (.tup [.str "wrong", .int 0])) : Shw H [.ref p] 1 ([p] ++ []) [tupleText [reprText "wrong", ((toString (0 : Int)) : PySem.Str)]] (10 + (1010 + (70 + 0)) + 0) :=
  .tup (d := 0) (bs := []) h (.str "wrong" (by decide +kernel) (ofs_ok _) (.int 0 (by decide) .nil)) (by simp) .nil
theorem wrong_ok : SeqAt.shaped (.tuple [.str "wrong", .int 0]) = true := by decide +kernel
end V1
/-! The law. -/
namespace V1
open PySem PySem.Spec PyProof.Rows L2 TL LamX
abbrev sLaw : Stmt := topS 40
abbrev NL : List PySem.Str := ["script", "bag", "turn", "version", "place", "told", "due", "its", "odd", "text"]
theorem scLaw : FnScope NL ["script"] (defScope sLaw) := ⟨rfl, rfl, rfl, by decide +kernel, rfl, by decide +kernel, by decide +kernel⟩
def QL : PySem.Str := (envOfC "law" (defScope sLaw) 0 0 .none).qual ++ "<lambda>"
def spLaw (K : PySem.W.Frag) (T : Addr) : Sp := fun vs H Q _ => ∃ (a : Addr) (ns : List Int), vs = [.ref a] ∧ SqL K H a (ns.map V.int) ∧ ns.length ≤ 63 ∧ H T = some (.tbl #[]) ∧ ∀ H', Q (.bl true) H'
theorem tab_chb {H H' : Hp} {T b : Addr} {q : PySem.Str} {xs : List V} (t : TabS H T q) (c : Chb b H H') (hb : H b = some (.lst xs)) : TabS H' T q := by
  obtain ⟨ps, h1, h2, h3⟩ := t
  refine ⟨ps, c _ _ (fun z => ?_) h1, h2, fun pos cv hc => ?_⟩
  · rw [z, hb] at h1
    cases h1
  · obtain ⟨d, e1, e2⟩ := h3 pos cv hc
    refine ⟨d, e1, c _ _ (fun z => ?_) e2⟩
    rw [z, hb] at e2
    unfold CodeO at e2
    cases e2
theorem Bag.ext {b : Addr} {H H' : Hp} (B : Bag H b) (e : ExtN H H') : Bag H' b := by
  obtain ⟨n, m, k, l, cs, hb, hl, r⟩ := B
  exact ⟨n, m, k, l, cs, e _ _ hb (fun _ z => nomatch z), e _ _ hl (fun _ z => nomatch z), r⟩
theorem Bag.lst2 {b : Addr} {H : Hp} (B : Bag H b) : ∃ xs, H b = some (.lst xs) := by
  obtain ⟨n, m, k, l, cs, hb, _⟩ := B
  exact ⟨_, hb⟩
structure Lw (K : PySem.W.Frag) (mg : PySem.Str → Option Value) (fRa : Addr) (fAf : Addr) (fSh : Addr) (fTo : Addr) (fSn : Addr) (fRe : Addr) (fG : Addr) (fVs : Addr) (fVe : Addr) (fFa : Addr) (fSa : Addr) (fBe : Addr) (fLr : Addr) (fJu : Addr) (fNe : Addr) (fLd : Addr) (dRa : FuncData) (dAf : FuncData) (dSh : FuncData) (dTo : FuncData) (dSn : FuncData) (dRe : FuncData) (dG : FuncData) (dVs : FuncData) (dVe : FuncData) (dFa : FuncData) (dSa : FuncData) (dBe : FuncData) (dLr : FuncData) (dJu : FuncData) (dNe : FuncData) (dLd : FuncData) (k5 k6 : Tok) : Prop where
  FRa : Fun K "raised" "raised" sRaised fRa dRa
  bRa : Binds K dRa ["version", "place"] []
  gRa : mg "raised" = some (.ref fRa)
  FAf : Fun K "after" "after" sAfter fAf dAf
  bAf : Binds K dAf ["version"] []
  gAf : mg "after" = some (.ref fAf)
  FSh : Fun K "show_version" "show_version" sShow fSh dSh
  bSh : Binds K dSh ["version"] []
  gSh : mg "show_version" = some (.ref fSh)
  FTo : Fun K "version_told" "version_told" sTold fTo dTo
  bTo : Binds K dTo ["text"] []
  gTo : mg "version_told" = some (.ref fTo)
  FSn : Fun K "is_shown_number" "is_shown_number" sShown fSn dSn
  bSn : Binds K dSn ["word"] []
  gSn : mg "is_shown_number" = some (.ref fSn)
  FRe : Fun K "read_version" "read_version" sRead fRe dRe
  bRe : Binds K dRe ["text"] []
  gRe : mg "read_version" = some (.ref fRe)
  FG : Fun K "_law_bag" "_law_bag" sBag fG dG
  bG : Binds K dG ["script"] []
  gG : mg "_law_bag" = some (.ref fG)
  FVs : Fun K "_law_versions" "_law_versions" sVersions fVs dVs
  bVs : Binds K dVs ["bag", "many"] []
  gVs : mg "_law_versions" = some (.ref fVs)
  FVe : Fun K "_law_version" "_law_version" sVersion fVe dVe
  bVe : Binds K dVe ["bag"] []
  gVe : mg "_law_version" = some (.ref fVe)
  FFa : Fun K "_law_far_versions" "_law_far_versions" sFar fFa dFa
  bFa : Binds K dFa ["bag"] []
  gFa : mg "_law_far_versions" = some (.ref fFa)
  FSa : Fun K "_law_said" "_law_said" sSaid fSa dSa
  bSa : Binds K dSa ["version"] []
  gSa : mg "_law_said" = some (.ref fSa)
  FBe : Fun K "_law_behind_version" "_law_behind_version" sBehind fBe dBe
  bBe : Binds K dBe ["version"] []
  gBe : mg "_law_behind_version" = some (.ref fBe)
  FLr : Fun K "_law_raised" "_law_raised" sLRaised fLr dLr
  bLr : Binds K dLr ["version", "place"] []
  gLr : mg "_law_raised" = some (.ref fLr)
  FJu : Fun K "_law_are_values_judged" "_law_are_values_judged" sJudged fJu dJu
  bJu : Binds K dJu ["bag", "version"] []
  gJu : mg "_law_are_values_judged" = some (.ref fJu)
  FNe : Fun K "_law_near_text" "_law_near_text" sNear fNe dNe
  bNe : Binds K dNe ["bag", "version"] []
  gNe : mg "_law_near_text" = some (.ref fNe)
  FLd : Fun K "_law_read_version" "_law_read_version" sLRead fLd dLd
  bLd : Binds K dLd ["text"] []
  gLd : mg "_law_read_version" = some (.ref fLd)
  gM : mg "MOST_FIGURES" = some (.int 6 k5)
  gF : mg "FIGURES" = some (.str Fg k6)
  mSorted : mg "sorted" = none
  mSet : mg "set" = none
  mRange : mg "range" = none
  mMin : mg "min" = none
  mAbs : mg "abs" = none
/-- no table is met -/
theorem Shw.notTbl {H : Hp} {vs : List V} {d : Nat} {as : List Addr} {ts : List PySem.Str} {c : Nat} (h : Shw H vs d as ts c) : ∀ b ∈ as, ∀ ps, H b ≠ some (.tbl ps) := by
  induction h with
  | nil => intro b hb; cases hb
  | non r ih => exact ih
  | bl b r ih => exact ih
  | int i hi r ih => exact ih
  | str x hx hc r ih => exact ih
  | lst h q hn r i1 i2 =>
    intro b hb ps z
    rcases List.mem_append.mp hb with m | m
    · rcases List.mem_cons.mp m with e | e
      · rw [e, h] at z; cases z
      · exact i1 b e ps z
    · exact i2 b m ps z
  | tup h q hn r i1 i2 =>
    intro b hb ps z
    rcases List.mem_append.mp hb with m | m
    · rcases List.mem_cons.mp m with e | e
      · rw [e, h] at z; cases z
      · exact i1 b e ps z
    · exact i2 b m ps z
  | dic ks h hk q hn r i1 i2 =>
    intro b hb ps z
    rcases List.mem_append.mp hb with m | m
    · rcases List.mem_cons.mp m with e | e
      · rw [e, h] at z; cases z
      · exact i1 b e ps z
    · exact i2 b m ps z
theorem Kn.ext {H H' : Hp} {v : V} (k : Kn H v) (e : ExtN H H') : Kn H' v := by
  obtain ⟨d, as, t, c, h⟩ := k
  exact ⟨d, as, t, c, h.keep fun b hb o hh => e b o hh fun ps z => h.notTbl b hb ps (by rw [hh, z])⟩
/-- at q stands what is heard -/
def RH (H : Hp) (q : Addr) : Option (List Int) → Prop | none => H q = some (.tup [.str "no version"]) | some l => ∃ a, q ≠ a ∧ H q = some (.tup [.str "told", .ref a]) ∧ H a = some (.tup (l.map V.int)) ∧ Vs l
theorem RH.ext {H H' : Hp} {q : Addr} {o : Option (List Int)} (r : RH H q o) (e : ExtN H H') : RH H' q o := by
  cases o with
  | none => exact e _ _ r fun _ z => nomatch z
  | some l =>
    obtain ⟨a, n, h1, h2, h3⟩ := r
    exact ⟨a, n, e _ _ h1 (fun _ z => nomatch z), e _ _ h2 (fun _ z => nomatch z), h3⟩
theorem RH.dp {K : PySem.W.Frag} {H : Hp} {q : Addr} {o : Option (List Int)} (r : RH H q o) : Dp K H (.ref q) (dHeard o) := by
  cases o with
  | none => exact .tup (.inl (.inl r)) (.cons (.str _) .nil)
  | some l =>
    obtain ⟨a, n, h1, h2, h3⟩ := r
    exact .tup (.inl (.inl h1)) (.cons (.str _) (.cons (.tup (.inl (.inl h2)) (dp_ints l)) .nil))
theorem RH.shw {H : Hp} {q : Addr} {o : Option (List Int)} (r : RH H q o) : ∃ as c, Shw H [.ref q] 2 as [tHeard o] c ∧ c ≤ 2000 := by
  cases o with
  | none => exact ⟨_, _, .tup r (short_str "no version" 1 (by decide +kernel) (ofs_ok _)) (by simp) .nil, by decide⟩
  | some l =>
    obtain ⟨a, n, h1, h2, h3⟩ := r
    exact ⟨_, _, .tup h1 ((short_str "told" 1 (by decide +kernel) (ofs_ok _)).cons1 (ver_shw h3 h2)) (by simpa using n) .nil, by decide⟩
def tTold (vs : List Int) (k : Nat) : PySem.Str := listText [ot (aft vs), ot (rsd vs k), reprText (said vs), vt vs]
/-- a list of what is told -/
structure LT (H : Hp) (t : Addr) (vs : List Int) (k : Nat) : Prop where
  dp : ∀ K : PySem.W.Frag, Dp K H (.ref t) (dTold vs k)
  shw : ∃ as c, Shw H [.ref t] 2 as [tTold vs k] c ∧ c ≤ 3000
theorem LT.new {G : Hp} {v1 v2 : V} {r t : Addr} {vs : List Int} {k : Nat} (hv : Vs vs) (hk : k < 3) (o1 : OV G v1 (aft vs)) (o2 : OV G v2 (rsd vs k)) (hr : G r = some (.tup (vs.map V.int))) (n : G t = none) {H' : Hp} (s : Same (upd G t (.lst [v1, v2, .str (said vs), .ref r])) H') : LT H' t vs k := by
  have s1 : Same G (upd G t (.lst [v1, v2, .str (said vs), .ref r])) := new_same n
  have h1 := s _ _ (upd_same (H := G) (a := t) (o := .lst [v1, v2, .str (said vs), .ref r]))
  refine ⟨fun K => ?_, ?_⟩
  · exact .lst (.inl (.inl h1)) (.cons (o1.same (s1.trans s)).dp (.cons (o2.same (s1.trans s)).dp (.cons (.str _) (.cons (.tup (.inl (.inl ((s1.trans s) _ _ hr))) (dp_ints vs)) .nil))))
  · obtain ⟨a1, c1, z1, l1⟩ := o1.shw fun l e => aft_vs hv e
    obtain ⟨a2, c2, z2, l2⟩ := o2.shw fun l e => rsd_vs hv hk e
    exact ⟨_, _, (shw_lst (z1.cons1 (z2.cons1 ((said_shw hv).cons1 (ver_shw hv hr)))) n).keep fun b _ o e => s b o e, by omega⟩
theorem ext_same {H H' : Hp} (s : Same H H') : ExtN H H' := ExtN.of s
section
variable {P : Program} {w : World} {K : PySem.W.Frag} {mg : PySem.Str → Option Value} {base : Heap}
theorem passE {X : Cx} : Passes (L2.CX X.prog X.w) X (fun _ _ _ => False) := fun _ _ _ _ _ _ _ h => by
  obtain ⟨_, _, _, _, _, _, _, _, _, _, _, _, z⟩ := h
  exact z.elim
theorem ok_law {f c Tt : Addr} {fT fO fI fD fB : Addr} {dT dO dI dD dB : FuncData} {f1 f2 f3 f4 f5 f6 : Addr} {d1 d2 d3 d4 d5 d6 : FuncData} {k1 k2 k3 k4 k5 k6 : Tok} {CW CN CP fIn : Addr} {dIn : FuncData}
    {fRa fAf fSh fTo fSn fRe fG fVs fVe fFa fSa fBe fLr fJu fNe fLd : Addr} {dRa dAf dSh dTo dSn dRe dG dVs dVe dFa dSa dBe dLr dJu dNe dLd : FuncData} {fH : Addr} {odH anH od an : Option Addr} {slH sl : Array (Option Value)} {ocH kVH dcH pmH cdH ctH oc kV dc pm ct : Value}
    (T : Fns K mg fT fO fI fD fB dT dO dI dD dB) (J : Jd K mg f1 f2 f3 f4 f5 f6 d1 d2 d3 d4 d5 d6 k1 k2 k3 k4) (E1 : Ex K mg CW CN fIn dIn) (E2 : Ey K mg CW CN CP) (L : Lw K mg fRa fAf fSh fTo fSn fRe fG fVs fVe fFa fSa fBe fLr fJu fNe fLd dRa dAf dSh dTo dSn dRe dG dVs dVe dFa dSa dBe dLr dJu dNe dLd k5 k6)
    (gH : mg "_law_heard" = some (.ref fH)) (kH : PySem.W.keepIn K (.ref fH) = true) (lH : K.lookup fH = some ⟨ocH, odH, .func (PySem.W.fnOf "_law_heard" "_law_heard" (defArgs sHeard) (defBody sHeard) (defScope sHeard) .none kVH dcH pmH anH cdH ctH), slH⟩) (cH : PySem.W.codeIn K cdH "_law_heard" = true)
    (bH : Binds K (PySem.W.fnOf "_law_heard" "_law_heard" (defArgs sHeard) (defBody sHeard) (defScope sHeard) .none kVH dcH pmH anH cdH ctH) ["act"] [])
    (lW : K.lookup f = some ⟨oc, od, .func (PySem.W.fnOf "law" "law" (defArgs sLaw) (defBody sLaw) (defScope sLaw) .none kV dc pm an (.ref c) ct), sl⟩) (cW : PySem.W.codeIn K (.ref c) "law" = true) (TB : TabB base mg c Tt) :
    Ok0 P w K mg base 10 f (PySem.W.fnOf "law" "law" (defArgs sLaw) (defBody sLaw) (defScope sLaw) .none kV dc pm an (.ref c) ct) ["script"] (spLaw K Tt) := by
  have GG : FnOk P w K mg base CX0 1 fG dG ["script"] (spBag K) := ok_bag L.FG L.mAbs
  have GO : FnOk P w K mg base CX0 2 fO dO ["bag", "things"] spOne := ok_one T.FO T.FT T.bT T.gT T.mInt T.mLen
  have GT : FnOk P w K mg base CX0 1 fT dT ["bag", "many"] spTake := ok_take T.FT T.mInt
  have GF : FnOk P w K mg base CX0 4 fFa dFa ["bag"] spFar := ok_far L.FFa L.FVs L.bVs L.gVs L.FVe L.bVe L.gVe T.FO T.bO T.gO T.FT T.bT T.gT T.mInt T.mLen L.mRange T.mTup L.mSorted L.mSet
  have GA : FnOk P w K mg base CX0 2 fAf dAf ["version"] spAfter := ok_after L.FAf L.FRa L.bRa L.gRa J.gG
  have GR : FnOk P w K mg base CX0 1 fRa dRa ["version", "place"] spRaised := ok_raised L.FRa J.gG
  have GS : FnOk P w K mg base CX0 1 fSh dSh ["version"] spSaid := ok_show L.FSh T.mStr
  have GD : FnOk P w K mg base CX0 1 fSa dSa ["version"] spSaid := ok_said L.FSa T.mStr
  have GB : FnOk P w K mg base CX0 1 fBe dBe ["version"] spAfter := ok_behind L.FBe
  have GL : FnOk P w K mg base CX0 1 fLr dLr ["version", "place"] spRaised := ok_lraised L.FLr
  have GN : FnOk P w K mg base CX0 3 fNe dNe ["bag", "version"] spNear := ok_near L.FNe L.FSa L.bSa L.gSa T.FO T.bO T.gO T.FT T.bT T.gT T.mStr T.mInt T.mLen
  have GW : FnOk P w K mg base CX0 1 fLd dLd ["text"] spTold := ok_lread L.FLd T.mLen T.mInt L.mMin T.mTup
  have GX : FnOk P w K mg base (L2.CX P w) 3 fRe dRe ["text"] (spRead CW CN) := ok_read L.FRe L.FTo L.bTo L.gTo L.FSn L.bSn L.gSn E1 L.gM L.gF T.mIsi T.mStr T.mLen J.mAll T.mInt
  have GJ : Ok0 P w K mg base 9 fJu dJu ["bag", "version"] spJudged := ok_judged L.FJu T J
  have G6 : Ok0 P w K mg base 1 f6 d6 ["found", "due"] (spAlike K) := ok_alike J.F6 J.mRepr
  refine Ok0.mk_at lW cW scLaw (fun vs H Q E h => ?_) (fun A outer s H vs Q E hgd hr h => ?_)
  · obtain ⟨a, ns, rfl, _⟩ := h
    rfl
  · obtain ⟨a, ns, rfl, hS, hl, hT0, q⟩ := h
    have r1 : Room 1 _ := hr.mono (show 1 ≤ 9 by decide)
    have r2 : Room 2 _ := hr.mono (show 2 ≤ 9 by decide)
    have r3 : Room 3 _ := hr.mono (show 3 ≤ 9 by decide)
    have r4 : Room 4 _ := hr.mono (show 4 ≤ 9 by decide)
    have r5 : Room 5 _ := hr.mono (show 5 ≤ 9 by decide)
    refine ⟨_, pss_cons (ps_set (i := 1) scLaw.nd rfl (.inl rfl) (pe_call GG r1 (by rfl) L.gG L.FG.kp L.bG .nil pass0 (pa_cons (pv 0) pa_nil)))
      (pss_cons (ps_for PassesOwn.never rfl (pi_range1 (by rfl) L.mRange (pa_cons pe_int pa_nil)) (pg_name (i := 2) scLaw.nd rfl (Or.inl rfl))
        (C8.pss_cut (ps_par (i := 3) (j := 4) rfl scLaw.nd rfl rfl (by decide) rfl rfl (pa_cons (pe_call GO r2 (by rfl) T.gO T.FO.kp T.bO .nil pass0 (pa_cons (pv 1) (pa_cons (pe_call GF r4 (by rfl) L.gFa L.FFa.kp L.bFa .nil pass0 (pa_cons (pv 1) pa_nil)) pa_nil))) (pa_cons (pe_call GT r1 (by rfl) T.gT T.FT.kp T.bT .nil pass0 (pa_cons (pv 1) (pa_cons pe_int pa_nil))) pa_nil)) (by rfl))
        (C8.pss_cut (ps_set (i := 5) scLaw.nd rfl (.inl rfl) (pe_lst (pa_cons (pe_call GA r2 (by rfl) L.gAf L.FAf.kp L.bAf .nil pass0 (pa_cons (pv 3) pa_nil)) (pa_cons (pe_call GR r1 (by rfl) L.gRa L.FRa.kp L.bRa .nil pass0 (pa_cons (pv 3) (pa_cons (pv 4) pa_nil))) (pa_cons (pe_call GS r1 (by rfl) L.gSh L.FSh.kp L.bSh .nil pass0 (pa_cons (pv 3) pa_nil)) (pa_cons (pe_call GX r3 (by rfl) L.gRe L.FRe.kp L.bRe .nil passE (pa_cons (pe_call GD r1 (by rfl) L.gSa L.FSa.kp L.bSa .nil pass0 (pa_cons (pv 3) pa_nil)) pa_nil)) pa_nil))))))
        (C8.pss_cut (ps_set (i := 6) scLaw.nd rfl (.inl rfl) (pe_lst (pa_cons (pe_call GB r1 (by rfl) L.gBe L.FBe.kp L.bBe .nil pass0 (pa_cons (pv 3) pa_nil)) (pa_cons (pe_call GL r1 (by rfl) L.gLr L.FLr.kp L.bLr .nil pass0 (pa_cons (pv 3) (pa_cons (pv 4) pa_nil))) (pa_cons (pe_call GD r1 (by rfl) L.gSa L.FSa.kp L.bSa .nil pass0 (pa_cons (pv 3) pa_nil)) (pa_cons (pv 3) pa_nil))))))
        (C8.pss_cut (ps_if (PW.pt (pw_or (pt_not (pt_val (pe_call00 G6 hgd r1 (by rfl) J.g6 J.F6.kp J.b6 (pa_cons (pv 5) (pa_cons (pv 6) pa_nil))))) (pw_or1 (pt_not (pt_val (pe_call00 GJ hgd hr (by rfl) L.gJu L.FJu.kp L.bJu (pa_cons (pv 1) (pa_cons (pv 3) pa_nil)))))))) (pss_one (ps_ret pe_bl)) pss_nil)
        (C8.pss_cut (ps_set (i := 9) scLaw.nd rfl (.inr rfl) (pe_call GN r3 (by rfl) L.gNe L.FNe.kp L.bNe .nil pass0 (pa_cons (pv 1) (pa_cons (pv 3) pa_nil))))
        (C8.pss_cut (ps_set (i := 7) scLaw.nd rfl (.inl rfl) (pe_call GW r1 (by rfl) L.gLd L.FLd.kp L.bLd .nil pass0 (pa_cons (pv 9) pa_nil)))
        (C8.pss_cut (ps_set (i := 6) scLaw.nd rfl (.inl rfl) (pe_ifExp (pt_cmpR op_isN (pv 7) pe_non (nomark _)) (pe_tup (pa_cons pe_str pa_nil)) (pe_tup (pa_cons pe_str (pa_cons (pv 7) pa_nil)))))
        (pss_one (ps_if (pt_not (pt_val (pe_call00 G6 hgd r1 (by rfl) J.g6 J.F6.kp J.b6 (pa_cons (pe_lamcall (T := [(Tt, QL)]) (TT := TTh CW CN) (t := fun E => tCall (spRead CW CN) [] E (tCons (tVar 9) tNil)) (by rfl) gH kH lH cH bH scHeard rfl (by first | exact .inl rfl | exact .inr (.inl rfl)) (heard_gives E2) TB rfl (List.mem_singleton.mpr rfl) (fun p hp _ => by rw [List.mem_singleton.mp hp]; rfl) r5 (lamS_by (by show lamSB (defScope sLaw) _ = true; decide +kernel)) rfl (fun _ _ _ _ _ => rfl)
          (fun A2 outer2 s2 H2 E2' f2 c2 hr2 => pe_call GX hr2 (by rfl) L.gRe L.FRe.kp L.bRe .nil (passes_call (takes_of rfl rfl rfl rfl) (fun _ _ _ _ h => h)) (pa_cons (pv 9) pa_nil))) (pa_cons (pv 6) pa_nil))))) (pss_one (ps_ret pe_bl)) pss_nil))))))))))
      (C8.pss_cut (ps_set (i := 8) scLaw.nd rfl (.inr rfl) (pe_call GO r2 (by rfl) T.gO T.FO.kp T.bO .nil pass0 (pa_cons (pv 1) (pa_cons (pe_lst (pa_cons pe_non (pa_cons pe_int (pa_cons (pe_tup (pa_cons pe_int (pa_cons pe_int (pa_cons pe_int pa_nil)))) (pa_cons (pe_lst (pa_cons pe_str pa_nil)) (pa_cons pe_bl pa_nil)))))) pa_nil))))
      (pss_one (ps_ret (pe_call00 G6 hgd r1 (by rfl) J.g6 J.F6.kp J.b6 (pa_cons (pe_lamcall (T := [(Tt, QL)]) (TT := TTh CW CN) (t := fun E => tCall (spRead CW CN) [] E (tCons (tVar 8) tNil)) (by rfl) gH kH lH cH bH scHeard rfl (by first | exact .inl rfl | exact .inr (.inl rfl)) (heard_gives E2) TB rfl (List.mem_singleton.mpr rfl) (fun p hp _ => by rw [List.mem_singleton.mp hp]; rfl) r5 (lamS_by (by show lamSB (defScope sLaw) _ = true; decide +kernel)) rfl (fun _ _ _ _ _ => rfl)
          (fun A2 outer2 s2 H2 E2' f2 c2 hr2 => pe_call GX hr2 (by rfl) L.gRe L.FRe.kp L.bRe .nil (passes_call (takes_of rfl rfl rfl rfl) (fun _ _ _ _ h => h)) (pa_cons (pv 8) pa_nil))) (pa_cons (pe_tup (pa_cons pe_str (pa_cons pe_int pa_nil))) pa_nil))))))), ?_⟩
    have tabs : ∀ {G : Hp}, TabS G Tt QL → Tabs [(Tt, QL)] G := fun h p hp => by rw [List.mem_singleton.mp hp]; exact h
    have untab : ∀ {G : Hp}, Tabs [(Tt, QL)] G → TabS G Tt QL := fun h => h _ List.mem_cons_self
    refine ⟨.ref a, rfl, a, ns, rfl, hS, hl, fun H0 b s0 nb hB0 => ⟨8, rfl, by decide, by decide, for_range (n := 8) (fun _ σ' H' => (∃ x2 x3 x4 x5 x6 x7 x8 x9, σ' = [some (.ref a), some (.ref b), x2, x3, x4, x5, x6, x7, x8, x9]) ∧ Bag H' b ∧ TabS H' Tt QL) ⟨⟨_, _, _, _, _, _, _, _, rfl⟩, hB0, (TabS.nil hT0).ext s0⟩ (fun i σ' H1 hi hP => ?_) (fun σ' H1 hP => ?_)⟩⟩
    · obtain ⟨⟨x2, x3, x4, x5, x6, x7, x8, x9, rfl⟩, B1, T1⟩ := hP
      clear hB0 hS hT0 s0 nb
      -- version, place
      refine ⟨fun σ' H' => ∃ p vs k, σ' = [some (.ref a), some (.ref b), some (.int (0 + (i : Nat))), some (.ref p), some (.int (k : Nat)), x5, x6, x7, x8, x9] ∧ Bag H' b ∧ TabS H' Tt QL ∧ H' p = some (.tup (vs.map V.int)) ∧ Vs vs ∧ p ≠ b ∧ k < 3, ?_, ?_⟩
      · refine ⟨.ref b, rfl, .ref b, rfl, b, rfl, B1, fun H2 p L c2 B2 hp pb hV hne hlen => ⟨b, p, rf L, rfl, B2, hp, pb, fun e => hne (List.map_eq_nil_iff.mp e), by rw [List.length_map]; omega, fun H3 x c3 B3 hx => ?_⟩⟩
        obtain ⟨r, hr0, rfl⟩ := List.mem_map.mp hx
        refine ⟨.ref b, rfl, b, 3, rfl, B3, by decide, by decide, fun H4 m c4 B4 m0 m1 => ⟨_, _, rfl, ?_⟩⟩
        obtain ⟨k, rfl⟩ : ∃ k : Nat, m = (k : Int) := ⟨m.toNat, by omega⟩
        obtain ⟨z1, z2, z3⟩ := (hV.chg (c3.trans c4)) r hr0
        obtain ⟨xs, hb1⟩ := B1.lst2
        exact ⟨r.1, r.2, k, rfl, B4, tab_chb T1 ((c2.trans c3).trans c4) hb1, z1, z2, z3, by omega⟩
      rintro σ' H2 ⟨p, vs, k, rfl, B2, T2, hp, hv, pb, hk⟩
      clear B1 T1
      have rs : ∀ {l}, readV (said vs) = some l → l = vs := fun e => by rw [read_said hv] at e; exact (Option.some.inj e).symm
      -- told
      refine ⟨fun σ' H' => ∃ t, σ' = [some (.ref a), some (.ref b), some (.int (0 + (i : Nat))), some (.ref p), some (.int (k : Nat)), some (.ref t), x6, x7, x8, x9] ∧ Same H2 H' ∧ ∀ H'', Same H' H'' → LT H'' t vs k, ?_, ?_⟩
      · refine ⟨.ref p, rfl, p, vs, rfl, hp, hv, fun Ha v1 sa o1 => ⟨.ref p, rfl, .int (k : Nat), rfl, p, vs, k, rfl, sa _ _ hp, hv, hk, fun Hb v2 sb o2 => ⟨.ref p, rfl, p, vs, rfl, sb _ _ (sa _ _ hp), hv, fun Hc sc => ⟨.ref p, rfl, p, vs, rfl, sc _ _ (sb _ _ (sa _ _ hp)), hv, fun Hd sd => ?_⟩⟩⟩⟩
        refine Or.inr ⟨said vs, rfl, by have := said_len hv; omega, fun l He r er se hr0 => ⟨by show 4 ≤ sizeLine; decide, fun t nt => ⟨t, rfl, ?_, fun H'' s'' => ?_⟩⟩, fun e => by rw [read_said hv] at e; cases e⟩
        · exact sa.trans (sb.trans (sc.trans (sd.trans (se.trans (new_same nt)))))
        · rw [rs er] at hr0
          exact LT.new hv hk (o1.same (sb.trans (sc.trans (sd.trans se)))) (o2.same (sc.trans (sd.trans se))) hr0 nt s''
      rintro σ' H3 ⟨t, rfl, s3, lt⟩
      have hp3 := s3 _ _ hp
      -- due
      refine ⟨fun σ' H' => ∃ u, σ' = [some (.ref a), some (.ref b), some (.int (0 + (i : Nat))), some (.ref p), some (.int (k : Nat)), some (.ref t), some (.ref u), x7, x8, x9] ∧ Same H3 H' ∧ ∀ H'', Same H' H'' → LT H'' u vs k, ?_, ?_⟩
      · refine ⟨.ref p, rfl, p, vs, rfl, hp3, hv, fun Ha v1 sa o1 => ⟨.ref p, rfl, .int (k : Nat), rfl, p, vs, k, rfl, sa _ _ hp3, hv, hk, fun Hb v2 sb o2 => ⟨.ref p, rfl, p, vs, rfl, sb _ _ (sa _ _ hp3), hv, fun Hc sc => ⟨.ref p, rfl, by show 4 ≤ sizeLine; decide, fun u nu => ⟨u, rfl, ?_, fun H'' s'' => ?_⟩⟩⟩⟩⟩
        · exact sa.trans (sb.trans (sc.trans (new_same nu)))
        · exact LT.new hv hk (o1.same (sb.trans sc)) (o2.same sc) (sc _ _ (sb _ _ (sa _ _ hp3))) nu s''
      rintro σ' H4 ⟨u, rfl, s4, lu⟩
      have l1 := lt H4 s4
      have l2 := lu H4 (Same.refl _)
      have s24 := s3.trans s4
      have B4 := B2.same s24
      have T4 := T2.ext s24
      have hp4 := s4 _ _ hp3
      -- alike, judged
      refine ⟨fun σ' H' => σ' = [some (.ref a), some (.ref b), some (.int (0 + (i : Nat))), some (.ref p), some (.int (k : Nat)), some (.ref t), some (.ref u), x7, x8, x9] ∧ Chb b H4 H' ∧ Bag H' b, ?_, ?_⟩
      · obtain ⟨as, e1, z1, y1⟩ := l1.shw
        obtain ⟨bs, e2, z2, y2⟩ := l2.shw
        refine ⟨_, rfl, _, rfl, _, _, dTold vs k, 2, as, bs, _, e1, e2, rfl, l1.dp _, l2.dp _, dTold_ok hv k, z1, z2, by decide, by omega, by omega, true, rfl, ?_⟩
        exact ⟨.ref b, rfl, .ref p, rfl, b, p, vs, rfl, B4, hp4, hv, pb, fun H' c' B' => ⟨true, rfl, rfl, c', B'⟩⟩
      rintro σ' H5 ⟨rfl, c5, B5⟩
      obtain ⟨xs4, hb4⟩ := B4.lst2
      have T5 := tab_chb T4 c5 hb4
      have hp5 := c5 _ _ pb hp4
      clear l1 l2 lt lu s24 s3 s4 B2 T2 B4 T4 hp hp3 hp4 c5 hb4
      -- text
      refine ⟨fun σ' H' => ∃ y : PySem.Str, σ' = [some (.ref a), some (.ref b), some (.int (0 + (i : Nat))), some (.ref p), some (.int (k : Nat)), some (.ref t), some (.ref u), x7, x8, some (.str y)] ∧ Bag H' b ∧ TabS H' Tt QL ∧ y.length ≤ 5000, ?_, ?_⟩
      · obtain ⟨xs5, hb5⟩ := B5.lst2
        exact ⟨.ref b, rfl, .ref p, rfl, b, p, vs, rfl, B5, hp5, hv, pb, fun H6 y c6 B6 ly => ⟨y, rfl, B6, tab_chb T5 c6 hb5, ly⟩⟩
      rintro σ' H6 ⟨y, rfl, B6, T6, ly⟩
      -- its
      refine ⟨fun σ' H' => ∃ v, σ' = [some (.ref a), some (.ref b), some (.int (0 + (i : Nat))), some (.ref p), some (.int (k : Nat)), some (.ref t), some (.ref u), some v, x8, some (.str y)] ∧ Same H6 H' ∧ OV H' v (readV y), ?_, ?_⟩
      · exact ⟨.str y, rfl, y, rfl, by omega, fun H7 v s7 o7 => ⟨v, rfl, s7, o7⟩⟩
      rintro σ' H7 ⟨v, rfl, s7, o7⟩
      -- due
      refine ⟨fun σ' H' => ∃ q, σ' = [some (.ref a), some (.ref b), some (.int (0 + (i : Nat))), some (.ref p), some (.int (k : Nat)), some (.ref t), some (.ref q), some v, x8, some (.str y)] ∧ Same H7 H' ∧ RH H' q (readV y), ?_, ?_⟩
      · refine ⟨v, rfl, rfl, _, rfl, ?_⟩
        cases e : readV y with
        | none =>
          rw [e] at o7
          obtain rfl : v = .non := o7
          rw [decide_eq_true (show V.non = V.non from rfl)]
          exact ⟨by show 1 ≤ sizeLine; decide, fun z nz => ⟨z, rfl, new_same nz, upd_same⟩⟩
        | some l =>
          rw [e] at o7
          obtain ⟨a2, rfl, ha2⟩ := o7
          rw [decide_eq_false (show ¬ V.ref a2 = V.non from fun z => nomatch z)]
          exact ⟨.ref a2, rfl, by show 2 ≤ sizeLine; decide, fun z nz => ⟨z, rfl, new_same nz, a2, (ne_of_none ha2 nz).symm, upd_same, new_ne ha2 nz, read_vs e⟩⟩
      rintro σ' H8 ⟨z, rfl, s8, rz⟩
      have B8 := B6.same (s7.trans s8)
      have T8 := T6.ext (s7.trans s8)
      -- heard
      have fin : ∀ (H10 : Hp) (g : Addr), RH H10 g (readV y) → ExtN H8 H10 → ∃ as bs c1 c2, Shw H10 [.ref g] 2 as [tHeard (readV y)] c1 ∧ Shw H10 [.ref z] 2 bs [tHeard (readV y)] c2 ∧ c1 ≤ 2000 ∧ c2 ≤ 2000 ∧ RH H10 z (readV y) ∧ Bag H10 b := by
        intro H10 g rg e10
        have rz' := rz.ext e10
        obtain ⟨as, c1, z1, y1⟩ := rg.shw
        obtain ⟨bs, c2, z2, y2⟩ := rz'.shw
        exact ⟨as, bs, c1, c2, z1, z2, y1, y2, rz', B8.ext e10⟩
      refine ⟨tabs T8, fun H9 e9 T9 => ⟨fun cls d G => cls = .ref CN ∧ readV y = none ∧ Same H9 G, ⟨.str y, rfl, Or.inr ⟨y, rfl, by omega, fun l G r er sg hr0 => ⟨by show 2 ≤ sizeLine; decide, fun g ng => ?_⟩, fun en G sg => ⟨rfl, en, sg⟩⟩⟩, fun cls d G hE => Or.inr ⟨hE.1, fun g ng => ?_⟩⟩⟩
      · have rg : RH (upd G g (.tup [.str "told", .ref r])) g (readV y) := by
          rw [er]
          exact ⟨r, (ne_of_none hr0 ng).symm, upd_same, new_ne hr0 ng, read_vs er⟩
        have sG : Same H9 (upd G g (.tup [.str "told", .ref r])) := sg.trans (new_same ng)
        obtain ⟨as, bs, c1, c2, z1, z2, y1, y2, rz', B'⟩ := fin _ g rg (e9.trans (ExtN.of sG))
        exact ⟨.ref z, rfl, _, _, dHeard (readV y), 2, as, bs, _, c1, c2, rfl, rg.dp, rz'.dp, dHeard_ok _, z1, z2, by decide, by omega, by omega, true, rfl, ⟨_, _, _, _, _, _, _, _, rfl⟩, B', (untab T9).ext sG⟩
      · obtain ⟨_, en, sg⟩ := hE
        have rg : RH (upd G g (.tup [.str "no version"])) g (readV y) := by
          rw [en]
          exact upd_same
        have sG : Same H9 (upd G g (.tup [.str "no version"])) := sg.trans (new_same ng)
        obtain ⟨as, bs, c1, c2, z1, z2, y1, y2, rz', B'⟩ := fin _ g rg (e9.trans (ExtN.of sG))
        exact ⟨.ref z, rfl, _, _, dHeard (readV y), 2, as, bs, _, c1, c2, rfl, rg.dp, rz'.dp, dHeard_ok _, z1, z2, by decide, by omega, by omega, true, rfl, ⟨_, _, _, _, _, _, _, _, rfl⟩, B', (untab T9).ext sG⟩
    · obtain ⟨⟨x2, x3, x4, x5, x6, x7, x8, x9, rfl⟩, B1, T1⟩ := hP
      refine ⟨fun σ' H' => ∃ v, σ' = [some (.ref a), some (.ref b), x2, x3, x4, x5, x6, x7, some v, x9] ∧ Kn H' v ∧ isS v = false ∧ TabS H' Tt QL, ?_, ?_⟩
      · obtain ⟨xs1, hb1⟩ := B1.lst2
        refine ⟨.ref b, rfl, by show 3 ≤ sizeLine; decide, fun t1 n1 => ⟨by show 1 ≤ sizeLine; decide, fun t2 n2 => ⟨by show 5 ≤ sizeLine; decide, fun t3 n3 => ?_⟩⟩⟩
        have e1 : upd H1 t1 (.tup [.int 1, .int 2, .int 3]) t1 = some (.tup [.int 1, .int 2, .int 3]) := upd_same
        have s1 : Same H1 (upd H1 t1 (.tup [.int 1, .int 2, .int 3])) := new_same n1
        have b1 : t1 ≠ b := (ne_of_none hb1 n1).symm
        generalize upd H1 t1 (.tup [.int 1, .int 2, .int 3]) = G1 at n2 n3 e1 s1 ⊢
        have e2 : upd G1 t2 (.lst [.str "1.2.3"]) t2 = some (.lst [.str "1.2.3"]) := upd_same
        have s2 : Same G1 (upd G1 t2 (.lst [.str "1.2.3"])) := new_same n2
        have b2 : t2 ≠ b := (ne_of_none (s1 _ _ hb1) n2).symm
        generalize upd G1 t2 (.lst [.str "1.2.3"]) = G2 at n3 e2 s2 ⊢
        have e3 : upd G2 t3 (.lst [.non, .int 1, .ref t1, .ref t2, .bl true]) t3 = some (.lst [.non, .int 1, .ref t1, .ref t2, .bl true]) := upd_same
        have s3 : Same G2 (upd G2 t3 (.lst [.non, .int 1, .ref t1, .ref t2, .bl true])) := new_same n3
        have b3 : t3 ≠ b := (ne_of_none (s2 _ _ (s1 _ _ hb1)) n3).symm
        generalize upd G2 t3 (.lst [.non, .int 1, .ref t1, .ref t2, .bl true]) = G3 at e3 s3 ⊢
        have s13 := s1.trans (s2.trans s3)
        refine ⟨b, t3, _, rfl, B1.same s13, e3, b3, by simp, by show 5 ≤ 1000; decide, fun H' x c' B' hx => ⟨x, rfl, ?_⟩⟩
        have tb : TabS H' Tt QL := tab_chb (T1.ext s13) c' (s13 _ _ hb1)
        simp only [List.mem_cons, List.not_mem_nil, or_false] at hx
        rcases hx with e | e | e | e | e
        · subst e; exact ⟨⟨_, _, _, _, .non (d := 0) .nil⟩, rfl, tb⟩
        · subst e; exact ⟨⟨_, _, _, _, .int (d := 0) 1 (by decide) .nil⟩, rfl, tb⟩
        · subst e
          have h1 := c' _ _ b1 (s3 _ _ (s2 _ _ e1))
          exact ⟨⟨_, _, _, _, .tup (d := 0) (bs := []) h1 (.int 1 (by decide) (.int 2 (by decide) (.int 3 (by decide) .nil))) (by simp) .nil⟩, rfl, tb⟩
        · subst e
          have h2 := c' _ _ b2 (s3 _ _ e2)
          exact ⟨⟨_, _, _, _, .lst (d := 0) (bs := []) h2 (.str "1.2.3" (by decide +kernel) (ofs_ok _) .nil) (by simp) .nil⟩, rfl, tb⟩
        · subst e; exact ⟨⟨_, _, _, _, .bl (d := 0) true .nil⟩, rfl, tb⟩
      rintro σ' H2 ⟨v, rfl, kn, hs, T2⟩
      refine ⟨tabs T2, fun H9 e9 T9 => ⟨fun cls d G => cls = .ref CW ∧ ∃ dd, d = some dd ∧ G dd = some (.xd [("place", .int 0)]), ⟨v, rfl, Or.inl ⟨v, rfl, kn.ext e9, hs, fun G d sg nd hd => ⟨rfl, d, rfl, hd⟩⟩⟩, fun cls d G hE => ?_⟩⟩
      obtain ⟨rfl, dd, rfl, hd⟩ := hE
      refine Or.inl ⟨rfl, dd, .int 0, rfl, hd, fun g ng => ⟨by show 2 ≤ sizeLine; decide, fun h nh => ?_⟩⟩
      have h1 : upd (upd G g (.tup [.str "wrong", .int 0])) h (.tup [.str "wrong", .int 0]) g = some (.tup [.str "wrong", .int 0]) := new_ne upd_same nh
      have h2 : upd (upd G g (.tup [.str "wrong", .int 0])) h (.tup [.str "wrong", .int 0]) h = some (.tup [.str "wrong", .int 0]) := upd_same
      exact ⟨_, _, .tuple [.str "wrong", .int 0], 1, _, _, _, _, _, rfl, wrong_dp h1, wrong_dp h2, wrong_ok, wrong_shw h1, wrong_shw h2, by decide, by decide, by decide, q _⟩
end
end V1
/-! What the top has written. -/
namespace V1
open PySem PySem.Spec PyProof.Rows L2 TL LamX
theorem all_mk {P : Program} {w : World} {K : PySem.W.Frag} {h : Heap} {mg : PySem.Str → Option Value} {fa : Addr} (X : K.In h) (G : h.Ns mainGlobals mg) (hfa : mg "law" = some (.ref fa))
    {cW cN cP fIn c Tt : Addr} {kt1 kt2 kt3 kt4 kt5 kt6 : Tok} {nmW qW : PySem.Str} {NW : Addr} {bsW bmW : List Value} {snW : List PySem.Str} {subW : List Value} {abW : Bool} {colW : Option Bool} {ddW : Option Addr} {maW mbW mcW mdW meW : Option Value} {odIn anIn : Option Addr} {slIn : Array (Option Value)} {ocIn kVIn dcIn pmIn cdIn ctIn : Value} {occ : Value} {odc : Option Addr} {vsc : Array Value} {slc : Array (Option Value)} {fT : Addr} {odT anT : Option Addr} {slT : Array (Option Value)} {ocT kVT dcT pmT cdT ctT : Value} {fO : Addr} {odO anO : Option Addr} {slO : Array (Option Value)} {ocO kVO dcO pmO cdO ctO : Value} {fI : Addr} {odI anI : Option Addr} {slI : Array (Option Value)} {ocI kVI dcI pmI cdI ctI : Value} {fD : Addr} {odD anD : Option Addr} {slD : Array (Option Value)} {ocD kVD dcD pmD cdD ctD : Value} {fB : Addr} {odB anB : Option Addr} {slB : Array (Option Value)} {ocB kVB dcB pmB cdB ctB : Value} {f1 : Addr} {od1 an1 : Option Addr} {sl1 : Array (Option Value)} {oc1 kV1 dc1 pm1 cd1 ct1 : Value} {f2 : Addr} {od2 an2 : Option Addr} {sl2 : Array (Option Value)} {oc2 kV2 dc2 pm2 cd2 ct2 : Value} {f3 : Addr} {od3 an3 : Option Addr} {sl3 : Array (Option Value)} {oc3 kV3 dc3 pm3 cd3 ct3 : Value} {f4 : Addr} {od4 an4 : Option Addr} {sl4 : Array (Option Value)} {oc4 kV4 dc4 pm4 cd4 ct4 : Value} {f5 : Addr} {od5 an5 : Option Addr} {sl5 : Array (Option Value)} {oc5 kV5 dc5 pm5 cd5 ct5 : Value} {f6 : Addr} {od6 an6 : Option Addr} {sl6 : Array (Option Value)} {oc6 kV6 dc6 pm6 cd6 ct6 : Value} {fRa : Addr} {odRa anRa : Option Addr} {slRa : Array (Option Value)} {ocRa kVRa dcRa pmRa cdRa ctRa : Value} {fAf : Addr} {odAf anAf : Option Addr} {slAf : Array (Option Value)} {ocAf kVAf dcAf pmAf cdAf ctAf : Value} {fSh : Addr} {odSh anSh : Option Addr} {slSh : Array (Option Value)} {ocSh kVSh dcSh pmSh cdSh ctSh : Value} {fTo : Addr} {odTo anTo : Option Addr} {slTo : Array (Option Value)} {ocTo kVTo dcTo pmTo cdTo ctTo : Value} {fSn : Addr} {odSn anSn : Option Addr} {slSn : Array (Option Value)} {ocSn kVSn dcSn pmSn cdSn ctSn : Value} {fRe : Addr} {odRe anRe : Option Addr} {slRe : Array (Option Value)} {ocRe kVRe dcRe pmRe cdRe ctRe : Value} {fG : Addr} {odG anG : Option Addr} {slG : Array (Option Value)} {ocG kVG dcG pmG cdG ctG : Value} {fVs : Addr} {odVs anVs : Option Addr} {slVs : Array (Option Value)} {ocVs kVVs dcVs pmVs cdVs ctVs : Value} {fVe : Addr} {odVe anVe : Option Addr} {slVe : Array (Option Value)} {ocVe kVVe dcVe pmVe cdVe ctVe : Value} {fFa : Addr} {odFa anFa : Option Addr} {slFa : Array (Option Value)} {ocFa kVFa dcFa pmFa cdFa ctFa : Value} {fSa : Addr} {odSa anSa : Option Addr} {slSa : Array (Option Value)} {ocSa kVSa dcSa pmSa cdSa ctSa : Value} {fBe : Addr} {odBe anBe : Option Addr} {slBe : Array (Option Value)} {ocBe kVBe dcBe pmBe cdBe ctBe : Value} {fLr : Addr} {odLr anLr : Option Addr} {slLr : Array (Option Value)} {ocLr kVLr dcLr pmLr cdLr ctLr : Value} {fJu : Addr} {odJu anJu : Option Addr} {slJu : Array (Option Value)} {ocJu kVJu dcJu pmJu cdJu ctJu : Value} {fNe : Addr} {odNe anNe : Option Addr} {slNe : Array (Option Value)} {ocNe kVNe dcNe pmNe cdNe ctNe : Value} {fLd : Addr} {odLd anLd : Option Addr} {slLd : Array (Option Value)} {ocLd kVLd dcLd pmLd cdLd ctLd : Value} {fH : Addr} {odH anH : Option Addr} {slH : Array (Option Value)} {ocH kVH dcH pmH cdH ctH : Value} {fW : Addr} {odW anW : Option Addr} {slW : Array (Option Value)} {ocW kVW dcW pmW ctW : Value}
    (ncW : PySem.W.nsIn K mainGlobals "Wrong" = some (some (.ref cW)))
    (ncN : PySem.W.nsIn K mainGlobals "NoVersion" = some (some (.ref cN)))
    (ncP : PySem.W.nsIn K mainGlobals "PackError" = some (some (.ref cP)))
    (xW : K.lookup cW = some (excClassObj nmW qW cW NW bsW bmW true snW subW abW colW ddW maW mbW mcW mdW meW "ValueError.__new__"))
    (jW : PySem.W.findIn K (.ref cW) "__init__" = some (some (.ref fIn)))
    (mIn : K.lookup fIn = some ⟨ocIn, odIn, .func (PySem.W.fnOf "__init__" "Wrong.__init__" (defArgs sInitW) (defBody sInitW) (defScope sInitW) .none kVIn dcIn pmIn anIn cdIn ctIn), slIn⟩)
    (gT : PySem.W.nsIn K mainGlobals "_law_take" = some (some (.ref fT)))
    (gO : PySem.W.nsIn K mainGlobals "_law_one" = some (some (.ref fO)))
    (gI : PySem.W.nsIn K mainGlobals "_law_integer" = some (some (.ref fI)))
    (gD : PySem.W.nsIn K mainGlobals "_law_odd" = some (some (.ref fD)))
    (gB : PySem.W.nsIn K mainGlobals "_law_bent" = some (some (.ref fB)))
    (g1 : PySem.W.nsIn K mainGlobals "is_integer" = some (some (.ref f1)))
    (g2 : PySem.W.nsIn K mainGlobals "is_version" = some (some (.ref f2)))
    (g3 : PySem.W.nsIn K mainGlobals "is_name" = some (some (.ref f3)))
    (g4 : PySem.W.nsIn K mainGlobals "_law_is_version" = some (some (.ref f4)))
    (g5 : PySem.W.nsIn K mainGlobals "_law_is_name" = some (some (.ref f5)))
    (g6 : PySem.W.nsIn K mainGlobals "_law_alike" = some (some (.ref f6)))
    (gRa : PySem.W.nsIn K mainGlobals "raised" = some (some (.ref fRa)))
    (gAf : PySem.W.nsIn K mainGlobals "after" = some (some (.ref fAf)))
    (gSh : PySem.W.nsIn K mainGlobals "show_version" = some (some (.ref fSh)))
    (gTo : PySem.W.nsIn K mainGlobals "version_told" = some (some (.ref fTo)))
    (gSn : PySem.W.nsIn K mainGlobals "is_shown_number" = some (some (.ref fSn)))
    (gRe : PySem.W.nsIn K mainGlobals "read_version" = some (some (.ref fRe)))
    (gG : PySem.W.nsIn K mainGlobals "_law_bag" = some (some (.ref fG)))
    (gVs : PySem.W.nsIn K mainGlobals "_law_versions" = some (some (.ref fVs)))
    (gVe : PySem.W.nsIn K mainGlobals "_law_version" = some (some (.ref fVe)))
    (gFa : PySem.W.nsIn K mainGlobals "_law_far_versions" = some (some (.ref fFa)))
    (gSa : PySem.W.nsIn K mainGlobals "_law_said" = some (some (.ref fSa)))
    (gBe : PySem.W.nsIn K mainGlobals "_law_behind_version" = some (some (.ref fBe)))
    (gLr : PySem.W.nsIn K mainGlobals "_law_raised" = some (some (.ref fLr)))
    (gJu : PySem.W.nsIn K mainGlobals "_law_are_values_judged" = some (some (.ref fJu)))
    (gNe : PySem.W.nsIn K mainGlobals "_law_near_text" = some (some (.ref fNe)))
    (gLd : PySem.W.nsIn K mainGlobals "_law_read_version" = some (some (.ref fLd)))
    (gH : PySem.W.nsIn K mainGlobals "_law_heard" = some (some (.ref fH)))
    (gW : PySem.W.nsIn K mainGlobals "law" = some (some (.ref fW)))
    (lT : K.lookup fT = some ⟨ocT, odT, .func (PySem.W.fnOf "_law_take" "_law_take" (defArgs sTake) (defBody sTake) (defScope sTake) .none kVT dcT pmT anT cdT ctT), slT⟩)
    (lO : K.lookup fO = some ⟨ocO, odO, .func (PySem.W.fnOf "_law_one" "_law_one" (defArgs sOne) (defBody sOne) (defScope sOne) .none kVO dcO pmO anO cdO ctO), slO⟩)
    (lI : K.lookup fI = some ⟨ocI, odI, .func (PySem.W.fnOf "_law_integer" "_law_integer" (defArgs sInteger) (defBody sInteger) (defScope sInteger) .none kVI dcI pmI anI cdI ctI), slI⟩)
    (lD : K.lookup fD = some ⟨ocD, odD, .func (PySem.W.fnOf "_law_odd" "_law_odd" (defArgs sOdd) (defBody sOdd) (defScope sOdd) .none kVD dcD pmD anD cdD ctD), slD⟩)
    (lB : K.lookup fB = some ⟨ocB, odB, .func (PySem.W.fnOf "_law_bent" "_law_bent" (defArgs sBent) (defBody sBent) (defScope sBent) .none kVB dcB pmB anB cdB ctB), slB⟩)
    (l1 : K.lookup f1 = some ⟨oc1, od1, .func (PySem.W.fnOf "is_integer" "is_integer" (defArgs sIsInt) (defBody sIsInt) (defScope sIsInt) .none kV1 dc1 pm1 an1 cd1 ct1), sl1⟩)
    (l2 : K.lookup f2 = some ⟨oc2, od2, .func (PySem.W.fnOf "is_version" "is_version" (defArgs sIsVer) (defBody sIsVer) (defScope sIsVer) .none kV2 dc2 pm2 an2 cd2 ct2), sl2⟩)
    (l3 : K.lookup f3 = some ⟨oc3, od3, .func (PySem.W.fnOf "is_name" "is_name" (defArgs sIsName) (defBody sIsName) (defScope sIsName) .none kV3 dc3 pm3 an3 cd3 ct3), sl3⟩)
    (l4 : K.lookup f4 = some ⟨oc4, od4, .func (PySem.W.fnOf "_law_is_version" "_law_is_version" (defArgs sLIsVer) (defBody sLIsVer) (defScope sLIsVer) .none kV4 dc4 pm4 an4 cd4 ct4), sl4⟩)
    (l5 : K.lookup f5 = some ⟨oc5, od5, .func (PySem.W.fnOf "_law_is_name" "_law_is_name" (defArgs sLIsName) (defBody sLIsName) (defScope sLIsName) .none kV5 dc5 pm5 an5 cd5 ct5), sl5⟩)
    (l6 : K.lookup f6 = some ⟨oc6, od6, .func (PySem.W.fnOf "_law_alike" "_law_alike" (defArgs sAlike) (defBody sAlike) (defScope sAlike) .none kV6 dc6 pm6 an6 cd6 ct6), sl6⟩)
    (lRa : K.lookup fRa = some ⟨ocRa, odRa, .func (PySem.W.fnOf "raised" "raised" (defArgs sRaised) (defBody sRaised) (defScope sRaised) .none kVRa dcRa pmRa anRa cdRa ctRa), slRa⟩)
    (lAf : K.lookup fAf = some ⟨ocAf, odAf, .func (PySem.W.fnOf "after" "after" (defArgs sAfter) (defBody sAfter) (defScope sAfter) .none kVAf dcAf pmAf anAf cdAf ctAf), slAf⟩)
    (lSh : K.lookup fSh = some ⟨ocSh, odSh, .func (PySem.W.fnOf "show_version" "show_version" (defArgs sShow) (defBody sShow) (defScope sShow) .none kVSh dcSh pmSh anSh cdSh ctSh), slSh⟩)
    (lTo : K.lookup fTo = some ⟨ocTo, odTo, .func (PySem.W.fnOf "version_told" "version_told" (defArgs sTold) (defBody sTold) (defScope sTold) .none kVTo dcTo pmTo anTo cdTo ctTo), slTo⟩)
    (lSn : K.lookup fSn = some ⟨ocSn, odSn, .func (PySem.W.fnOf "is_shown_number" "is_shown_number" (defArgs sShown) (defBody sShown) (defScope sShown) .none kVSn dcSn pmSn anSn cdSn ctSn), slSn⟩)
    (lRe : K.lookup fRe = some ⟨ocRe, odRe, .func (PySem.W.fnOf "read_version" "read_version" (defArgs sRead) (defBody sRead) (defScope sRead) .none kVRe dcRe pmRe anRe cdRe ctRe), slRe⟩)
    (lG : K.lookup fG = some ⟨ocG, odG, .func (PySem.W.fnOf "_law_bag" "_law_bag" (defArgs sBag) (defBody sBag) (defScope sBag) .none kVG dcG pmG anG cdG ctG), slG⟩)
    (lVs : K.lookup fVs = some ⟨ocVs, odVs, .func (PySem.W.fnOf "_law_versions" "_law_versions" (defArgs sVersions) (defBody sVersions) (defScope sVersions) .none kVVs dcVs pmVs anVs cdVs ctVs), slVs⟩)
    (lVe : K.lookup fVe = some ⟨ocVe, odVe, .func (PySem.W.fnOf "_law_version" "_law_version" (defArgs sVersion) (defBody sVersion) (defScope sVersion) .none kVVe dcVe pmVe anVe cdVe ctVe), slVe⟩)
    (lFa : K.lookup fFa = some ⟨ocFa, odFa, .func (PySem.W.fnOf "_law_far_versions" "_law_far_versions" (defArgs sFar) (defBody sFar) (defScope sFar) .none kVFa dcFa pmFa anFa cdFa ctFa), slFa⟩)
    (lSa : K.lookup fSa = some ⟨ocSa, odSa, .func (PySem.W.fnOf "_law_said" "_law_said" (defArgs sSaid) (defBody sSaid) (defScope sSaid) .none kVSa dcSa pmSa anSa cdSa ctSa), slSa⟩)
    (lBe : K.lookup fBe = some ⟨ocBe, odBe, .func (PySem.W.fnOf "_law_behind_version" "_law_behind_version" (defArgs sBehind) (defBody sBehind) (defScope sBehind) .none kVBe dcBe pmBe anBe cdBe ctBe), slBe⟩)
    (lLr : K.lookup fLr = some ⟨ocLr, odLr, .func (PySem.W.fnOf "_law_raised" "_law_raised" (defArgs sLRaised) (defBody sLRaised) (defScope sLRaised) .none kVLr dcLr pmLr anLr cdLr ctLr), slLr⟩)
    (lJu : K.lookup fJu = some ⟨ocJu, odJu, .func (PySem.W.fnOf "_law_are_values_judged" "_law_are_values_judged" (defArgs sJudged) (defBody sJudged) (defScope sJudged) .none kVJu dcJu pmJu anJu cdJu ctJu), slJu⟩)
    (lNe : K.lookup fNe = some ⟨ocNe, odNe, .func (PySem.W.fnOf "_law_near_text" "_law_near_text" (defArgs sNear) (defBody sNear) (defScope sNear) .none kVNe dcNe pmNe anNe cdNe ctNe), slNe⟩)
    (lLd : K.lookup fLd = some ⟨ocLd, odLd, .func (PySem.W.fnOf "_law_read_version" "_law_read_version" (defArgs sLRead) (defBody sLRead) (defScope sLRead) .none kVLd dcLd pmLd anLd cdLd ctLd), slLd⟩)
    (lH : K.lookup fH = some ⟨ocH, odH, .func (PySem.W.fnOf "_law_heard" "_law_heard" (defArgs sHeard) (defBody sHeard) (defScope sHeard) .none kVH dcH pmH anH cdH ctH), slH⟩)
    (lW : K.lookup fW = some ⟨ocW, odW, .func (PySem.W.fnOf "law" "law" (defArgs sLaw) (defBody sLaw) (defScope sLaw) .none kVW dcW pmW anW (.ref c) ctW), slW⟩)
    (q1 : PySem.W.nsIn K mainGlobals "GREATEST" = some (some (.int 999999 kt1)))
    (q2 : PySem.W.nsIn K mainGlobals "LONGEST_NAME" = some (some (.int 20 kt2)))
    (q3 : PySem.W.nsIn K mainGlobals "LETTERS" = some (some (.str Lt kt3)))
    (q4 : PySem.W.nsIn K mainGlobals "NAME_SIGNS" = some (some (.str Nz kt4)))
    (q5 : PySem.W.nsIn K mainGlobals "MOST_FIGURES" = some (some (.int 6 kt5)))
    (q6 : PySem.W.nsIn K mainGlobals "FIGURES" = some (some (.str Fg kt6)))
    (yN : PySem.W.excIn K cN [.type "ValueError", .type "Exception", .type "BaseException", .type "object"] "ValueError.__new__" = true)
    (lC : K.lookup c = some ⟨occ, odc, .fields vsc, slc⟩)
    (pC : (vsc[11]? : Option Value) = some (.ref Tt))
    (tT : K.lookup Tt = none)
    (BW : (PySem.W.keepIn K (.ref cW) && (PySem.W.typeIn K (.ref cW) == some (.type "type")) && (PySem.W.subIn K (.ref cW) (.type "BaseException") == some true) && (PySem.W.findIn K (.ref cW) "__setattr__" == some (some (.builtin "object.__setattr__"))) && PySem.HandSPX.refsVE bmW && (PySem.W.findIn K (.ref cW) "place" == some none) && (PySem.W.typeIn K (.ref fIn) == some (.type "function")) && PySem.W.keepIn K (.ref fIn) && PySem.W.codeIn K cdIn "Wrong.__init__" && xfB K cW) = true)
    (BE : (PySem.W.keepIn K (.ref cN) && (PySem.W.subIn K (.ref cN) (.type "BaseException") == some true) && (PySem.W.typeIn K (.ref cN) == some (.type "type")) && (PySem.W.exmOne K (.ref cW) (.ref cW) == some true) && (PySem.W.exmOne K (.ref cN) (.ref cW) == some false) && (PySem.W.exmOne K (.ref cN) (.ref cN) == some true)) = true)
    (kT : (PySem.W.codeIn K cdT "_law_take" && PySem.W.keepIn K (.ref fT)) = true)
    (kO : (PySem.W.codeIn K cdO "_law_one" && PySem.W.keepIn K (.ref fO)) = true)
    (kI : (PySem.W.codeIn K cdI "_law_integer" && PySem.W.keepIn K (.ref fI)) = true)
    (kD : (PySem.W.codeIn K cdD "_law_odd" && PySem.W.keepIn K (.ref fD)) = true)
    (kB : (PySem.W.codeIn K cdB "_law_bent" && PySem.W.keepIn K (.ref fB)) = true)
    (k1 : (PySem.W.codeIn K cd1 "is_integer" && PySem.W.keepIn K (.ref f1)) = true)
    (k2 : (PySem.W.codeIn K cd2 "is_version" && PySem.W.keepIn K (.ref f2)) = true)
    (k3 : (PySem.W.codeIn K cd3 "is_name" && PySem.W.keepIn K (.ref f3)) = true)
    (k4 : (PySem.W.codeIn K cd4 "_law_is_version" && PySem.W.keepIn K (.ref f4)) = true)
    (k5 : (PySem.W.codeIn K cd5 "_law_is_name" && PySem.W.keepIn K (.ref f5)) = true)
    (k6 : (PySem.W.codeIn K cd6 "_law_alike" && PySem.W.keepIn K (.ref f6)) = true)
    (kRa : (PySem.W.codeIn K cdRa "raised" && PySem.W.keepIn K (.ref fRa)) = true)
    (kAf : (PySem.W.codeIn K cdAf "after" && PySem.W.keepIn K (.ref fAf)) = true)
    (kSh : (PySem.W.codeIn K cdSh "show_version" && PySem.W.keepIn K (.ref fSh)) = true)
    (kTo : (PySem.W.codeIn K cdTo "version_told" && PySem.W.keepIn K (.ref fTo)) = true)
    (kSn : (PySem.W.codeIn K cdSn "is_shown_number" && PySem.W.keepIn K (.ref fSn)) = true)
    (kRe : (PySem.W.codeIn K cdRe "read_version" && PySem.W.keepIn K (.ref fRe)) = true)
    (kG : (PySem.W.codeIn K cdG "_law_bag" && PySem.W.keepIn K (.ref fG)) = true)
    (kVs : (PySem.W.codeIn K cdVs "_law_versions" && PySem.W.keepIn K (.ref fVs)) = true)
    (kVe : (PySem.W.codeIn K cdVe "_law_version" && PySem.W.keepIn K (.ref fVe)) = true)
    (kFa : (PySem.W.codeIn K cdFa "_law_far_versions" && PySem.W.keepIn K (.ref fFa)) = true)
    (kSa : (PySem.W.codeIn K cdSa "_law_said" && PySem.W.keepIn K (.ref fSa)) = true)
    (kBe : (PySem.W.codeIn K cdBe "_law_behind_version" && PySem.W.keepIn K (.ref fBe)) = true)
    (kLr : (PySem.W.codeIn K cdLr "_law_raised" && PySem.W.keepIn K (.ref fLr)) = true)
    (kJu : (PySem.W.codeIn K cdJu "_law_are_values_judged" && PySem.W.keepIn K (.ref fJu)) = true)
    (kNe : (PySem.W.codeIn K cdNe "_law_near_text" && PySem.W.keepIn K (.ref fNe)) = true)
    (kLd : (PySem.W.codeIn K cdLd "_law_read_version" && PySem.W.keepIn K (.ref fLd)) = true)
    (kH : (PySem.W.codeIn K cdH "_law_heard" && PySem.W.keepIn K (.ref fH)) = true)
    (kW : (PySem.W.codeIn K (.ref c) "law" && PySem.W.keepIn K (.ref fW)) = true)
    (BN : ([("int" : PySem.Str), ("len" : PySem.Str), ("isinstance" : PySem.Str), ("bool" : PySem.Str), ("str" : PySem.Str), ("tuple" : PySem.Str), ("list" : PySem.Str), ("all" : PySem.Str), ("repr" : PySem.Str), ("sorted" : PySem.Str), ("set" : PySem.Str), ("range" : PySem.Str), ("min" : PySem.Str), ("abs" : PySem.Str)].all fun x => PySem.W.nsIn K mainGlobals x == some none) = true) :
    ∃ (fd : FuncData) (c T : Addr), PySem.W.tabIn K "law" = some (c, T) ∧ K.lookup T = none ∧ (∀ (s : Shared) (v : Value), BindsTo s fd ⟨[v], []⟩ [("script", v)]) ∧ ∀ base : Heap, K.In base → base.Ns mainGlobals mg → TabB base mg c T → Ok0 P w K mg base 10 fa fd ["script"] (spLaw K T) := by
  have e := hfa.symm.trans (PySem.W.mg_of X G gW)
  cases e
  have nn : ∀ x : PySem.Str, x ∈ [("int" : PySem.Str), ("len" : PySem.Str), ("isinstance" : PySem.Str), ("bool" : PySem.Str), ("str" : PySem.Str), ("tuple" : PySem.Str), ("list" : PySem.Str), ("all" : PySem.Str), ("repr" : PySem.Str), ("sorted" : PySem.Str), ("set" : PySem.Str), ("range" : PySem.Str), ("min" : PySem.Str), ("abs" : PySem.Str)] → mg x = none := fun x hx => PySem.W.mg_none_of X G (beq_iff_eq.mp (List.all_eq_true.mp BN x hx))
  have kT' := Bool.and_eq_true_iff.mp kT
  have FT := fun_mk (st := sTake) lT kT'.1 kT'.2
  have bT := FT.binds (ps := ["bag", "many"]) fun _ _ _ _ _ _ us hl => match us, hl with | [_, _], _ => rfl
  have kO' := Bool.and_eq_true_iff.mp kO
  have FO := fun_mk (st := sOne) lO kO'.1 kO'.2
  have bO := FO.binds (ps := ["bag", "things"]) fun _ _ _ _ _ _ us hl => match us, hl with | [_, _], _ => rfl
  have kI' := Bool.and_eq_true_iff.mp kI
  have FI := fun_mk (st := sInteger) lI kI'.1 kI'.2
  have bI := FI.binds (ps := ["thing"]) fun _ _ _ _ _ _ us hl => match us, hl with | [_], _ => rfl
  have kD' := Bool.and_eq_true_iff.mp kD
  have FD := fun_mk (st := sOdd) lD kD'.1 kD'.2
  have bD := FD.binds (ps := ["bag"]) fun _ _ _ _ _ _ us hl => match us, hl with | [_], _ => rfl
  have kB' := Bool.and_eq_true_iff.mp kB
  have FB := fun_mk (st := sBent) lB kB'.1 kB'.2
  have bB := FB.binds (ps := ["bag", "thing", "deep"]) fun _ _ _ _ _ _ us hl => match us, hl with | [_, _, _], _ => rfl
  have k1' := Bool.and_eq_true_iff.mp k1
  have F1 := fun_mk (st := sIsInt) l1 k1'.1 k1'.2
  have b1 := F1.binds (ps := ["thing"]) fun _ _ _ _ _ _ us hl => match us, hl with | [_], _ => rfl
  have k2' := Bool.and_eq_true_iff.mp k2
  have F2 := fun_mk (st := sIsVer) l2 k2'.1 k2'.2
  have b2 := F2.binds (ps := ["thing"]) fun _ _ _ _ _ _ us hl => match us, hl with | [_], _ => rfl
  have k3' := Bool.and_eq_true_iff.mp k3
  have F3 := fun_mk (st := sIsName) l3 k3'.1 k3'.2
  have b3 := F3.binds (ps := ["thing"]) fun _ _ _ _ _ _ us hl => match us, hl with | [_], _ => rfl
  have k4' := Bool.and_eq_true_iff.mp k4
  have F4 := fun_mk (st := sLIsVer) l4 k4'.1 k4'.2
  have b4 := F4.binds (ps := ["thing"]) fun _ _ _ _ _ _ us hl => match us, hl with | [_], _ => rfl
  have k5' := Bool.and_eq_true_iff.mp k5
  have F5 := fun_mk (st := sLIsName) l5 k5'.1 k5'.2
  have b5 := F5.binds (ps := ["thing"]) fun _ _ _ _ _ _ us hl => match us, hl with | [_], _ => rfl
  have k6' := Bool.and_eq_true_iff.mp k6
  have F6 := fun_mk (st := sAlike) l6 k6'.1 k6'.2
  have b6 := F6.binds (ps := ["found", "due"]) fun _ _ _ _ _ _ us hl => match us, hl with | [_, _], _ => rfl
  have kRa' := Bool.and_eq_true_iff.mp kRa
  have FRa := fun_mk (st := sRaised) lRa kRa'.1 kRa'.2
  have bRa := FRa.binds (ps := ["version", "place"]) fun _ _ _ _ _ _ us hl => match us, hl with | [_, _], _ => rfl
  have kAf' := Bool.and_eq_true_iff.mp kAf
  have FAf := fun_mk (st := sAfter) lAf kAf'.1 kAf'.2
  have bAf := FAf.binds (ps := ["version"]) fun _ _ _ _ _ _ us hl => match us, hl with | [_], _ => rfl
  have kSh' := Bool.and_eq_true_iff.mp kSh
  have FSh := fun_mk (st := sShow) lSh kSh'.1 kSh'.2
  have bSh := FSh.binds (ps := ["version"]) fun _ _ _ _ _ _ us hl => match us, hl with | [_], _ => rfl
  have kTo' := Bool.and_eq_true_iff.mp kTo
  have FTo := fun_mk (st := sTold) lTo kTo'.1 kTo'.2
  have bTo := FTo.binds (ps := ["text"]) fun _ _ _ _ _ _ us hl => match us, hl with | [_], _ => rfl
  have kSn' := Bool.and_eq_true_iff.mp kSn
  have FSn := fun_mk (st := sShown) lSn kSn'.1 kSn'.2
  have bSn := FSn.binds (ps := ["word"]) fun _ _ _ _ _ _ us hl => match us, hl with | [_], _ => rfl
  have kRe' := Bool.and_eq_true_iff.mp kRe
  have FRe := fun_mk (st := sRead) lRe kRe'.1 kRe'.2
  have bRe := FRe.binds (ps := ["text"]) fun _ _ _ _ _ _ us hl => match us, hl with | [_], _ => rfl
  have kG' := Bool.and_eq_true_iff.mp kG
  have FG := fun_mk (st := sBag) lG kG'.1 kG'.2
  have bG := FG.binds (ps := ["script"]) fun _ _ _ _ _ _ us hl => match us, hl with | [_], _ => rfl
  have kVs' := Bool.and_eq_true_iff.mp kVs
  have FVs := fun_mk (st := sVersions) lVs kVs'.1 kVs'.2
  have bVs := FVs.binds (ps := ["bag", "many"]) fun _ _ _ _ _ _ us hl => match us, hl with | [_, _], _ => rfl
  have kVe' := Bool.and_eq_true_iff.mp kVe
  have FVe := fun_mk (st := sVersion) lVe kVe'.1 kVe'.2
  have bVe := FVe.binds (ps := ["bag"]) fun _ _ _ _ _ _ us hl => match us, hl with | [_], _ => rfl
  have kFa' := Bool.and_eq_true_iff.mp kFa
  have FFa := fun_mk (st := sFar) lFa kFa'.1 kFa'.2
  have bFa := FFa.binds (ps := ["bag"]) fun _ _ _ _ _ _ us hl => match us, hl with | [_], _ => rfl
  have kSa' := Bool.and_eq_true_iff.mp kSa
  have FSa := fun_mk (st := sSaid) lSa kSa'.1 kSa'.2
  have bSa := FSa.binds (ps := ["version"]) fun _ _ _ _ _ _ us hl => match us, hl with | [_], _ => rfl
  have kBe' := Bool.and_eq_true_iff.mp kBe
  have FBe := fun_mk (st := sBehind) lBe kBe'.1 kBe'.2
  have bBe := FBe.binds (ps := ["version"]) fun _ _ _ _ _ _ us hl => match us, hl with | [_], _ => rfl
  have kLr' := Bool.and_eq_true_iff.mp kLr
  have FLr := fun_mk (st := sLRaised) lLr kLr'.1 kLr'.2
  have bLr := FLr.binds (ps := ["version", "place"]) fun _ _ _ _ _ _ us hl => match us, hl with | [_, _], _ => rfl
  have kJu' := Bool.and_eq_true_iff.mp kJu
  have FJu := fun_mk (st := sJudged) lJu kJu'.1 kJu'.2
  have bJu := FJu.binds (ps := ["bag", "version"]) fun _ _ _ _ _ _ us hl => match us, hl with | [_, _], _ => rfl
  have kNe' := Bool.and_eq_true_iff.mp kNe
  have FNe := fun_mk (st := sNear) lNe kNe'.1 kNe'.2
  have bNe := FNe.binds (ps := ["bag", "version"]) fun _ _ _ _ _ _ us hl => match us, hl with | [_, _], _ => rfl
  have kLd' := Bool.and_eq_true_iff.mp kLd
  have FLd := fun_mk (st := sLRead) lLd kLd'.1 kLd'.2
  have bLd := FLd.binds (ps := ["text"]) fun _ _ _ _ _ _ us hl => match us, hl with | [_], _ => rfl
  have kH' := Bool.and_eq_true_iff.mp kH
  have FH := fun_mk (st := sHeard) lH kH'.1 kH'.2
  have bH := FH.binds (ps := ["act"]) fun _ _ _ _ _ _ us hl => match us, hl with | [_], _ => rfl
  have kW' := Bool.and_eq_true_iff.mp kW
  simp only [Bool.and_eq_true, beq_iff_eq] at BW BE
  obtain ⟨⟨⟨⟨⟨⟨⟨⟨⟨w1, w2⟩, w3⟩, w4⟩, w5⟩, w6⟩, w7⟩, w8⟩, w9⟩, w10⟩ := BW
  obtain ⟨⟨⟨⟨⟨e1, e2⟩, e3⟩, e4⟩, e5⟩, e6⟩ := BE
  have FIn := fun_mk (st := sInitW) mIn w9 w8
  have bIn := FIn.binds (ps := ["self", "place"]) fun _ _ _ _ _ _ us hl => match us, hl with | [_, _], _ => rfl
  have B : Fns K mg fT fO fI fD fB _ _ _ _ _ := ⟨FT, FO, FI, FD, FB, bT, bO, bI, bD, bB, PySem.W.mg_of X G gT, PySem.W.mg_of X G gO, PySem.W.mg_of X G gI, PySem.W.mg_of X G gD, PySem.W.mg_of X G gB, (nn "int" (by decide +kernel)), (nn "len" (by decide +kernel)), (nn "isinstance" (by decide +kernel)), (nn "bool" (by decide +kernel)), (nn "str" (by decide +kernel)), (nn "tuple" (by decide +kernel)), (nn "list" (by decide +kernel))⟩
  have J : Jd K mg f1 f2 f3 f4 f5 f6 _ _ _ _ _ _ kt1 kt2 kt3 kt4 := ⟨F1, F2, F3, F4, F5, F6, b1, b2, b3, b4, b5, b6, PySem.W.mg_of X G g1, PySem.W.mg_of X G g2, PySem.W.mg_of X G g3, PySem.W.mg_of X G g4, PySem.W.mg_of X G g5, PySem.W.mg_of X G g6, PySem.W.mg_of X G q1, PySem.W.mg_of X G q2, PySem.W.mg_of X G q3, PySem.W.mg_of X G q4, (nn "all" (by decide +kernel)), (nn "repr" (by decide +kernel))⟩
  have X1 : Ex K mg cW cN fIn _ := ⟨PySem.W.mg_of X G ncW, ⟨⟨_, _, _, _, _, _, _, _, _, _, _, _, _, _, _, xW, w5⟩, w4, w3, w2, w1⟩, jW, w7, w6, FIn, bIn, PySem.W.mg_of X G ncN, yN, e1, e2, e3⟩
  have X2 : Ey K mg cW cN cP := ⟨xfB_ok w10, w6, e4, e5, e6, PySem.W.mg_of X G ncW, PySem.W.mg_of X G ncN, PySem.W.mg_of X G ncP⟩
  have L : Lw K mg fRa fAf fSh fTo fSn fRe fG fVs fVe fFa fSa fBe fLr fJu fNe fLd _ _ _ _ _ _ _ _ _ _ _ _ _ _ _ _ kt5 kt6 := ⟨FRa, bRa, PySem.W.mg_of X G gRa, FAf, bAf, PySem.W.mg_of X G gAf, FSh, bSh, PySem.W.mg_of X G gSh, FTo, bTo, PySem.W.mg_of X G gTo, FSn, bSn, PySem.W.mg_of X G gSn, FRe, bRe, PySem.W.mg_of X G gRe, FG, bG, PySem.W.mg_of X G gG, FVs, bVs, PySem.W.mg_of X G gVs, FVe, bVe, PySem.W.mg_of X G gVe, FFa, bFa, PySem.W.mg_of X G gFa, FSa, bSa, PySem.W.mg_of X G gSa, FBe, bBe, PySem.W.mg_of X G gBe, FLr, bLr, PySem.W.mg_of X G gLr, FJu, bJu, PySem.W.mg_of X G gJu, FNe, bNe, PySem.W.mg_of X G gNe, FLd, bLd, PySem.W.mg_of X G gLd, PySem.W.mg_of X G q5, PySem.W.mg_of X G q6, (nn "sorted" (by decide +kernel)), (nn "set" (by decide +kernel)), (nn "range" (by decide +kernel)), (nn "min" (by decide +kernel)), (nn "abs" (by decide +kernel))⟩
  have tb : PySem.W.tabIn K "law" = some (c, Tt) := by
    unfold PySem.W.tabIn
    rw [gW]
    simp only [lW, lC, pC, PySem.W.fnOf]
  exact ⟨_, c, Tt, tb, tT, fun s v => .of_eq rfl, fun base _ _ TB => ok_law B J X1 X2 L (PySem.W.mg_of X G gH) kH'.2 lH kH'.1 bH lW kW'.1 TB⟩
end V1
open PySem PySem.W PyProof.Rows
set_option maxHeartbeats 0 in
theorem PySem.Challenge.cw_packsworn_k01_versions_shown_and_raised_holds : PySem.Challenge.rw_packsworn_k01_versions_shown_and_raised.Holds := by
  w_on; o_law; k_head; (case hw => w_witness2)
  k_fill
  refine V1.walk_T (l := PySem.Challenge.rw_packsworn_k01_versions_shown_and_raised) (n := 63) (k := 10) (x := "script") (sp := fun K T => V1.spLaw K T) rfl (by decide) rfl ⟨rfl, by decide, by decide⟩ (fun w h Y => PySem.W.km_in_of Y) (by kernel_rfl) ?F (fun _ _ a T ns hl hT hS => ⟨a, ns, rfl, hS, hl, hT, fun _ => rfl⟩)
  case F =>
    intro w mg fa h KX G hmg
    refine' V1.all_mk KX G hmg ?ncW ?ncN ?ncP ?xW ?jW ?mIn ?gT ?gO ?gI ?gD ?gB ?g1 ?g2 ?g3 ?g4 ?g5 ?g6 ?gRa ?gAf ?gSh ?gTo ?gSn ?gRe ?gG ?gVs ?gVe ?gFa ?gSa ?gBe ?gLr ?gJu ?gNe ?gLd ?gH ?gW ?lT ?lO ?lI ?lD ?lB ?l1 ?l2 ?l3 ?l4 ?l5 ?l6 ?lRa ?lAf ?lSh ?lTo ?lSn ?lRe ?lG ?lVs ?lVe ?lFa ?lSa ?lBe ?lLr ?lJu ?lNe ?lLd ?lH ?lW ?q1 ?q2 ?q3 ?q4 ?q5 ?q6 ?yN ?lC ?pC ?tT ?BW ?BE ?kT ?kO ?kI ?kD ?kB ?k1 ?k2 ?k3 ?k4 ?k5 ?k6 ?kRa ?kAf ?kSh ?kTo ?kSn ?kRe ?kG ?kVs ?kVe ?kFa ?kSa ?kBe ?kLr ?kJu ?kNe ?kLd ?kH ?kW ?BN
    (case ncW => first | k_is | k_exc | rfl | kernel_rfl)
    (case ncN => first | k_is | k_exc | rfl | kernel_rfl)
    (case ncP => first | k_is | k_exc | rfl | kernel_rfl)
    (case xW => first | k_is | k_exc | rfl | kernel_rfl)
    (case jW => first | k_is | k_exc | rfl | kernel_rfl)
    (case mIn => first | k_is | k_exc | rfl | kernel_rfl)
    (case gT => first | k_is | k_exc | rfl | kernel_rfl)
    (case gO => first | k_is | k_exc | rfl | kernel_rfl)
    (case gI => first | k_is | k_exc | rfl | kernel_rfl)
    (case gD => first | k_is | k_exc | rfl | kernel_rfl)
    (case gB => first | k_is | k_exc | rfl | kernel_rfl)
    (case g1 => first | k_is | k_exc | rfl | kernel_rfl)
    (case g2 => first | k_is | k_exc | rfl | kernel_rfl)
    (case g3 => first | k_is | k_exc | rfl | kernel_rfl)
    (case g4 => first | k_is | k_exc | rfl | kernel_rfl)
    (case g5 => first | k_is | k_exc | rfl | kernel_rfl)
    (case g6 => first | k_is | k_exc | rfl | kernel_rfl)
    (case gRa => first | k_is | k_exc | rfl | kernel_rfl)
    (case gAf => first | k_is | k_exc | rfl | kernel_rfl)
    (case gSh => first | k_is | k_exc | rfl | kernel_rfl)
    (case gTo => first | k_is | k_exc | rfl | kernel_rfl)
    (case gSn => first | k_is | k_exc | rfl | kernel_rfl)
    (case gRe => first | k_is | k_exc | rfl | kernel_rfl)
    (case gG => first | k_is | k_exc | rfl | kernel_rfl)
    (case gVs => first | k_is | k_exc | rfl | kernel_rfl)
    (case gVe => first | k_is | k_exc | rfl | kernel_rfl)
    (case gFa => first | k_is | k_exc | rfl | kernel_rfl)
    (case gSa => first | k_is | k_exc | rfl | kernel_rfl)
    (case gBe => first | k_is | k_exc | rfl | kernel_rfl)
    (case gLr => first | k_is | k_exc | rfl | kernel_rfl)
    (case gJu => first | k_is | k_exc | rfl | kernel_rfl)
    (case gNe => first | k_is | k_exc | rfl | kernel_rfl)
    (case gLd => first | k_is | k_exc | rfl | kernel_rfl)
    (case gH => first | k_is | k_exc | rfl | kernel_rfl)
    (case gW => first | k_is | k_exc | rfl | kernel_rfl)
    (case lT => first | k_is | k_exc | rfl | kernel_rfl)
    (case lO => first | k_is | k_exc | rfl | kernel_rfl)
    (case lI => first | k_is | k_exc | rfl | kernel_rfl)
    (case lD => first | k_is | k_exc | rfl | kernel_rfl)
    (case lB => first | k_is | k_exc | rfl | kernel_rfl)
    (case l1 => first | k_is | k_exc | rfl | kernel_rfl)
    (case l2 => first | k_is | k_exc | rfl | kernel_rfl)
    (case l3 => first | k_is | k_exc | rfl | kernel_rfl)
    (case l4 => first | k_is | k_exc | rfl | kernel_rfl)
    (case l5 => first | k_is | k_exc | rfl | kernel_rfl)
    (case l6 => first | k_is | k_exc | rfl | kernel_rfl)
    (case lRa => first | k_is | k_exc | rfl | kernel_rfl)
    (case lAf => first | k_is | k_exc | rfl | kernel_rfl)
    (case lSh => first | k_is | k_exc | rfl | kernel_rfl)
    (case lTo => first | k_is | k_exc | rfl | kernel_rfl)
    (case lSn => first | k_is | k_exc | rfl | kernel_rfl)
    (case lRe => first | k_is | k_exc | rfl | kernel_rfl)
    (case lG => first | k_is | k_exc | rfl | kernel_rfl)
    (case lVs => first | k_is | k_exc | rfl | kernel_rfl)
    (case lVe => first | k_is | k_exc | rfl | kernel_rfl)
    (case lFa => first | k_is | k_exc | rfl | kernel_rfl)
    (case lSa => first | k_is | k_exc | rfl | kernel_rfl)
    (case lBe => first | k_is | k_exc | rfl | kernel_rfl)
    (case lLr => first | k_is | k_exc | rfl | kernel_rfl)
    (case lJu => first | k_is | k_exc | rfl | kernel_rfl)
    (case lNe => first | k_is | k_exc | rfl | kernel_rfl)
    (case lLd => first | k_is | k_exc | rfl | kernel_rfl)
    (case lH => first | k_is | k_exc | rfl | kernel_rfl)
    (case lW => first | k_is | k_exc | rfl | kernel_rfl)
    (case q1 => first | k_is | k_exc | rfl | kernel_rfl)
    (case q2 => first | k_is | k_exc | rfl | kernel_rfl)
    (case q3 => first | k_is | k_exc | rfl | kernel_rfl)
    (case q4 => first | k_is | k_exc | rfl | kernel_rfl)
    (case q5 => first | k_is | k_exc | rfl | kernel_rfl)
    (case q6 => first | k_is | k_exc | rfl | kernel_rfl)
    (case yN => first | k_is | k_exc | rfl | kernel_rfl)
    (case lC => first | k_is | k_exc | rfl | kernel_rfl)
    (case pC => first | k_is | k_exc | rfl | kernel_rfl)
    (case tT => first | k_is | k_exc | rfl | kernel_rfl)
    (case BW => first | k_is | k_exc | rfl | kernel_rfl)
    (case BE => first | k_is | k_exc | rfl | kernel_rfl)
    (case kT => first | k_is | k_exc | rfl | kernel_rfl)
    (case kO => first | k_is | k_exc | rfl | kernel_rfl)
    (case kI => first | k_is | k_exc | rfl | kernel_rfl)
    (case kD => first | k_is | k_exc | rfl | kernel_rfl)
    (case kB => first | k_is | k_exc | rfl | kernel_rfl)
    (case k1 => first | k_is | k_exc | rfl | kernel_rfl)
    (case k2 => first | k_is | k_exc | rfl | kernel_rfl)
    (case k3 => first | k_is | k_exc | rfl | kernel_rfl)
    (case k4 => first | k_is | k_exc | rfl | kernel_rfl)
    (case k5 => first | k_is | k_exc | rfl | kernel_rfl)
    (case k6 => first | k_is | k_exc | rfl | kernel_rfl)
    (case kRa => first | k_is | k_exc | rfl | kernel_rfl)
    (case kAf => first | k_is | k_exc | rfl | kernel_rfl)
    (case kSh => first | k_is | k_exc | rfl | kernel_rfl)
    (case kTo => first | k_is | k_exc | rfl | kernel_rfl)
    (case kSn => first | k_is | k_exc | rfl | kernel_rfl)
    (case kRe => first | k_is | k_exc | rfl | kernel_rfl)
    (case kG => first | k_is | k_exc | rfl | kernel_rfl)
    (case kVs => first | k_is | k_exc | rfl | kernel_rfl)
    (case kVe => first | k_is | k_exc | rfl | kernel_rfl)
    (case kFa => first | k_is | k_exc | rfl | kernel_rfl)
    (case kSa => first | k_is | k_exc | rfl | kernel_rfl)
    (case kBe => first | k_is | k_exc | rfl | kernel_rfl)
    (case kLr => first | k_is | k_exc | rfl | kernel_rfl)
    (case kJu => first | k_is | k_exc | rfl | kernel_rfl)
    (case kNe => first | k_is | k_exc | rfl | kernel_rfl)
    (case kLd => first | k_is | k_exc | rfl | kernel_rfl)
    (case kH => first | k_is | k_exc | rfl | kernel_rfl)
    (case kW => first | k_is | k_exc | rfl | kernel_rfl)
    (case BN => first | k_is | k_exc | rfl | kernel_rfl)
