import PyProof.Rows.All
import Wide.All
import OpenK.AllK
import Wide.FinOn
import PyProof.ReprReads
import PyProof.FitsInt
import KE.KExcIs
import HandS.ForMost
import HandS.ForExc
import HandS.ExcInit
import HandS.ExcOwn
import HandS.ExcValue
import HandS.DeepEq
import HandS.IsInst
import HandS.TupAny
import HandS.Conv
import HandS.Style
import HandS.FStrTup
import HandS.Codes
import PyProof.Rows.ReprOcc
import HandS.Walk
import PySem.Challenge.RW_packsworn_k00_errors_of_any_value
set_option Elab.async false
set_option linter.all false
set_option maxRecDepth 100000
set_option maxHeartbeats 16000000
/-! What a value prints as, over the abstract heap: one relation over lists of values. -/
namespace V0
open PySem PySem.Spec PyProof.Rows L2

/-- the texts that some values print as: depth at most d, the objects as that are met, the texts, what they cost -/
inductive Shw (H : Hp) : List V → Nat → List Addr → List Str → Nat → Prop
  | nil {d : Nat} : Shw H [] d [] [] 0
  | non {vs d as ts c} (r : Shw H vs d as ts c) : Shw H (.non :: vs) d as ("None" :: ts) (10 + c)
  | bl {vs d as ts c} (b : Bool) (r : Shw H vs d as ts c) : Shw H (.bl b :: vs) d as ((if b then "True" else "False" : String) :: ts) (10 + c)
  | int {vs d as ts c} (i : Int) (hi : i.natAbs < 10 ^ 60) (r : Shw H vs d as ts c) : Shw H (.int i :: vs) d as (toString i :: ts) (70 + c)
  | str {vs d as ts c} (x : Str) (hx : x.length ≤ 100) (hc : ∀ k ∈ x.cps.toList, k < 16 ^ 8) (r : Shw H vs d as ts c) : Shw H (.str x :: vs) d as (reprText x :: ts) (1010 + c)
  | lst {vs d as ts c a xs bs us e} (h : H a = some (.lst xs)) (q : Shw H xs d bs us e) (hn : a ∉ bs) (r : Shw H vs (d + 1) as ts c) : Shw H (.ref a :: vs) (d + 1) ((a :: bs) ++ as) (listText us :: ts) (10 + e + c)
  | tup {vs d as ts c a xs bs us e} (h : H a = some (.tup xs)) (q : Shw H xs d bs us e) (hn : a ∉ bs) (r : Shw H vs (d + 1) as ts c) : Shw H (.ref a :: vs) (d + 1) ((a :: bs) ++ as) (tupleText us :: ts) (10 + e + c)
  | dic {vs d as ts c a bs us e} (ks : List (Str × V)) (h : H a = some (.dK (ks.map fun p => (Sum.inr p.1, p.2)))) (hk : ∀ p ∈ ks, p.1.length ≤ 100 ∧ ∀ k ∈ p.1.cps.toList, k < 16 ^ 8)
      (q : Shw H (ks.map (·.2)) d bs us e) (hn : a ∉ bs) (r : Shw H vs (d + 1) as ts c) :
      Shw H (.ref a :: vs) (d + 1) ((a :: bs) ++ as) (dictText (List.zipWith (fun p u => reprText p.1 ++ ": " ++ u) ks us) :: ts) (10 + 1010 * ks.length + e + c)

variable {H H' : Hp} {vs ws : List V} {d d' : Nat} {as bs : List Addr} {ts us : List Str} {c e : Nat}
theorem Shw.len (h : Shw H vs d as ts c) : ts.length = vs.length := by
  induction h with
  | nil => rfl
  | _ => simp_all
theorem Shw.there (h : Shw H vs d as ts c) : ∀ b ∈ as, ∃ o, H b = some o := by
  induction h with
  | nil => intro b hb; cases hb
  | non r ih => exact ih
  | bl b r ih => exact ih
  | int i hi r ih => exact ih
  | str x hx hc r ih => exact ih
  | lst h q hn r i1 i2 =>
    intro b hb
    rcases List.mem_append.mp hb with z | z
    · rcases List.mem_cons.mp z with y | y
      · exact ⟨_, y ▸ h⟩
      · exact i1 b y
    · exact i2 b z
  | tup h q hn r i1 i2 =>
    intro b hb
    rcases List.mem_append.mp hb with z | z
    · rcases List.mem_cons.mp z with y | y
      · exact ⟨_, y ▸ h⟩
      · exact i1 b y
    · exact i2 b z
  | dic ks h hk q hn r i1 i2 =>
    intro b hb
    rcases List.mem_append.mp hb with z | z
    · rcases List.mem_cons.mp z with y | y
      · exact ⟨_, y ▸ h⟩
      · exact i1 b y
    · exact i2 b z
theorem Shw.fresh {p : Addr} (h : Shw H vs d as ts c) (hp : H p = none) : p ∉ as := fun hm => by
  obtain ⟨o, e⟩ := h.there p hm
  rw [hp] at e; cases e
/-- what is kept at the objects that are met -/
theorem Shw.keep (h : Shw H vs d as ts c) : (∀ b ∈ as, ∀ o, H b = some o → H' b = some o) → Shw H' vs d as ts c := by
  induction h with
  | nil => intro _; exact .nil
  | non r ih => intro k; exact .non (ih k)
  | bl b r ih => intro k; exact .bl b (ih k)
  | int i hi r ih => intro k; exact .int i hi (ih k)
  | str x hx hc r ih => intro k; exact .str x hx hc (ih k)
  | lst h q hn r i1 i2 =>
    intro k
    exact .lst (k _ (List.mem_append_left _ List.mem_cons_self) _ h) (i1 fun b hb => k b (List.mem_append_left _ (List.mem_cons_of_mem _ hb))) hn (i2 fun b hb => k b (List.mem_append_right _ hb))
  | tup h q hn r i1 i2 =>
    intro k
    exact .tup (k _ (List.mem_append_left _ List.mem_cons_self) _ h) (i1 fun b hb => k b (List.mem_append_left _ (List.mem_cons_of_mem _ hb))) hn (i2 fun b hb => k b (List.mem_append_right _ hb))
  | dic ks h hk q hn r i1 i2 =>
    intro k
    exact .dic ks (k _ (List.mem_append_left _ List.mem_cons_self) _ h) hk (i1 fun b hb => k b (List.mem_append_left _ (List.mem_cons_of_mem _ hb))) hn (i2 fun b hb => k b (List.mem_append_right _ hb))
theorem Shw.up1 (h : Shw H vs d as ts c) : Shw H vs (d + 1) as ts c := by
  induction h with
  | nil => exact .nil
  | non r ih => exact .non ih
  | bl b r ih => exact .bl b ih
  | int i hi r ih => exact .int i hi ih
  | str x hx hc r ih => exact .str x hx hc ih
  | lst h q hn r i1 i2 => exact .lst h i1 hn i2
  | tup h q hn r i1 i2 => exact .tup h i1 hn i2
  | dic ks h hk q hn r i1 i2 => exact .dic ks h hk i1 hn i2
theorem Shw.up (h : Shw H vs d as ts c) (hd : d ≤ d') : Shw H vs d' as ts c := by
  induction hd with
  | refl => exact h
  | step _ ih => exact ih.up1
/-- one more in front -/
theorem Shw.cons1 {v : V} (h : Shw H [v] d as ts c) : Shw H ws d bs us e → Shw H (v :: ws) d (as ++ bs) (ts ++ us) (c + e) := by
  intro q
  generalize hv : [v] = vs at h
  cases h with
  | nil => cases hv
  | non r => cases hv; cases r; simpa using Shw.non q
  | bl b r => cases hv; cases r; simpa using Shw.bl b q
  | int i hi r => cases hv; cases r; simpa using Shw.int i hi q
  | str x hx hc r => cases hv; cases r; simpa using Shw.str x hx hc q
  | lst h p hn r => cases hv; cases r; simpa using Shw.lst h p hn q
  | tup h p hn r => cases hv; cases r; simpa using Shw.tup h p hn q
  | dic ks h hk p hn r => cases hv; cases r; simpa using Shw.dic ks h hk p hn q
/-- each of them alone -/
theorem Shw.each (h : Shw H vs d as ts c) : ∀ v ∈ vs, ∃ as t e, Shw H [v] d as [t] e ∧ e ≤ c := by
  induction h with
  | nil => intro v hv; cases hv
  | non r ih =>
    intro v hv
    rcases List.mem_cons.mp hv with z | z
    · subst z
      exact ⟨_, _, _, Shw.non Shw.nil, by omega⟩
    · obtain ⟨as, t, e, q, l⟩ := ih v z
      exact ⟨as, t, e, q, by omega⟩
  | bl b r ih =>
    intro v hv
    rcases List.mem_cons.mp hv with z | z
    · subst z
      exact ⟨_, _, _, Shw.bl b Shw.nil, by omega⟩
    · obtain ⟨as, t, e, q, l⟩ := ih v z
      exact ⟨as, t, e, q, by omega⟩
  | int i hi r ih =>
    intro v hv
    rcases List.mem_cons.mp hv with z | z
    · subst z
      exact ⟨_, _, _, Shw.int i hi Shw.nil, by omega⟩
    · obtain ⟨as, t, e, q, l⟩ := ih v z
      exact ⟨as, t, e, q, by omega⟩
  | str x hx hc r ih =>
    intro v hv
    rcases List.mem_cons.mp hv with z | z
    · subst z
      exact ⟨_, _, _, Shw.str x hx hc Shw.nil, by omega⟩
    · obtain ⟨as, t, e, q, l⟩ := ih v z
      exact ⟨as, t, e, q, by omega⟩
  | lst h q hn r i1 i2 =>
    intro v hv
    rcases List.mem_cons.mp hv with z | z
    · subst z
      exact ⟨_, _, _, Shw.lst h q hn Shw.nil, by omega⟩
    · obtain ⟨as, t, e, q, l⟩ := i2 v z
      exact ⟨as, t, e, q, by omega⟩
  | tup h q hn r i1 i2 =>
    intro v hv
    rcases List.mem_cons.mp hv with z | z
    · subst z
      exact ⟨_, _, _, Shw.tup h q hn Shw.nil, by omega⟩
    · obtain ⟨as, t, e, q, l⟩ := i2 v z
      exact ⟨as, t, e, q, by omega⟩
  | dic ks h hk q hn r i1 i2 =>
    intro v hv
    rcases List.mem_cons.mp hv with z | z
    · subst z
      exact ⟨_, _, _, Shw.dic ks h hk q hn Shw.nil, by omega⟩
    · obtain ⟨as, t, e, q, l⟩ := i2 v z
      exact ⟨as, t, e, q, by omega⟩
/-- what a value is of which all this is said -/
theorem Shw.kind {v : V} (h : Shw H [v] d as ts c) : flatB v = true ∨ ∃ a, v = .ref a := by
  generalize hv : [v] = vs at h
  cases h with
  | nil => cases hv
  | non r => cases hv; exact .inl rfl
  | bl b r => cases hv; exact .inl rfl
  | int i hi r => cases hv; exact .inl rfl
  | str x hx hc r => cases hv; exact .inl rfl
  | lst h p hn r => cases hv; exact .inr ⟨_, rfl⟩
  | tup h p hn r => cases hv; exact .inr ⟨_, rfl⟩
  | dic ks h hk p hn r => cases hv; exact .inr ⟨_, rfl⟩
/-- v prints, at depth d at most, at cost B at most -/
def Pt (H : Hp) (d B : Nat) (v : V) : Prop := ∃ as t e, Shw H [v] d as [t] e ∧ e ≤ B
theorem Pt.mono {B B' : Nat} {v : V} (p : Pt H d B v) (hd : d ≤ d') (hB : B ≤ B') : Pt H d' B' v := by
  obtain ⟨as, t, e, q, l⟩ := p
  exact ⟨as, t, e, q.up hd, by omega⟩
theorem Pt.same {B : Nat} {v : V} (p : Pt H d B v) (k : ∀ b o, H b = some o → H' b = some o) : Pt H' d B v := by
  obtain ⟨as, t, e, q, l⟩ := p
  exact ⟨as, t, e, q.keep fun b _ => k b, l⟩
theorem Pt.all {B : Nat} : ∀ {vs : List V}, (∀ v ∈ vs, Pt H d B v) → ∃ as ts e, Shw H vs d as ts e ∧ e ≤ B * vs.length
  | [], _ => ⟨_, _, _, .nil, Nat.zero_le _⟩
  | v :: vs, h => by
    obtain ⟨as, t, e, q, l⟩ := h v List.mem_cons_self
    obtain ⟨bs, us, f, r, m⟩ := Pt.all (vs := vs) fun w hw => h w (List.mem_cons_of_mem _ hw)
    refine ⟨_, _, _, q.cons1 r, ?_⟩
    rw [List.length_cons, Nat.mul_succ]
    omega
theorem Pt.lst {B : Nat} {a : Addr} {xs : List V} (h : H a = some (.lst xs)) (k : ∀ v ∈ xs, ∃ d0, d0 < d ∧ Pt H d0 B v) (hf : ∀ as ts e, Shw H xs (d - 1) as ts e → a ∉ as) (hd : 0 < d) : Pt H d (10 + B * xs.length) (.ref a) := by
  obtain ⟨d0, rfl⟩ : ∃ d0, d = d0 + 1 := ⟨d - 1, by omega⟩
  obtain ⟨as, ts, e, q, l⟩ := Pt.all (H := H) (d := d0) (B := B) (vs := xs) fun v hv => by
    obtain ⟨d1, h1, p⟩ := k v hv
    exact p.mono (by omega) (Nat.le_refl _)
  exact ⟨_, _, _, .lst h q (hf _ _ _ q) .nil, by omega⟩
end V0
namespace V0
open PySem PySem.Spec PyProof.Rows L2
theorem list_len (ts : List Str) : (listText ts).length ≤ piled ts + 2 := by
  cases ts with
  | nil => decide +kernel
  | cons t r =>
    have e0 : (listText (t :: r)).length = (textFrom 1 ((("[" : Str) ++ ("" : String)) ++ t) r).length + 1 := by
      show (textFrom 1 ((("[" : Str) ++ ("" : String)) ++ t) r ++ "]").length = _
      rw [strLen_append]; rfl
    have e1 : ((("[" : Str) ++ ("" : String)) ++ t).length = 1 + t.length := by rw [strLen_append]; rfl
    rw [e0, textFrom_length_pos _ _ _ Nat.one_pos, e1, piled_cons]
    omega
theorem dict_len (ps : List Str) : (dictText ps).length ≤ piled ps + 2 := by
  have e : (dictText ps).length = 1 + (Str.join ", " ps).length + 1 := by
    unfold dictText
    rw [strLen_append, strLen_append]; rfl
  by_cases h : ps = []
  · subst h; decide +kernel
  · have := join_length_add ps h
    omega
theorem zip_len : ∀ (ks : List (Str × V)) (us : List Str), (∀ p ∈ ks, p.1.length ≤ 100 ∧ ∀ k ∈ p.1.cps.toList, k < 16 ^ 8) → ks.length = us.length →
    piled (List.zipWith (fun p u => reprText p.1 ++ ": " ++ u) ks us) ≤ 1010 * ks.length + piled us
  | [], _, _, _ => by simp [piled]
  | _ :: _, [], _, h => by cases h
  | p :: ks, u :: us, hk, hl => by
    have ih := zip_len ks us (fun q hq => hk q (List.mem_cons_of_mem _ hq)) (by simpa using hl)
    obtain ⟨z1, z2⟩ := hk p List.mem_cons_self
    have r := StrLaws.reprText_len p.1 z2
    have e : (reprText p.1 ++ ": " ++ u).length = (reprText p.1).length + 2 + u.length := by
      rw [strLen_append, strLen_append]; rfl
    rw [List.zipWith_cons_cons, piled_cons, piled_cons, e, List.length_cons]
    omega
variable {H H' : Hp} {vs ws : List V} {d d' : Nat} {as bs : List Addr} {ts us : List Str} {c e : Nat}
theorem Shw.cost (h : Shw H vs d as ts c) : piled ts ≤ c := by
  induction h with
  | nil => exact Nat.zero_le _
  | non r ih =>
    rw [piled_cons]
    have : ("None" : Str).length = 4 := by decide +kernel
    omega
  | bl b r ih =>
    rw [piled_cons]
    have : ((if b then "True" else "False" : String) : Str).length ≤ 5 := by cases b <;> decide +kernel
    omega
  | int i hi r ih =>
    rw [piled_cons]
    have q := int_text_length_le10 (k := 60) (by decide) hi
    have : (Str.ofString (toString i)).length = (toString i).length := PySem.ofString_length _
    clear hi
    omega
  | str x hx hc r ih =>
    rw [piled_cons]
    have := StrLaws.reprText_len x hc
    omega
  | lst h q hn r i1 i2 =>
    rw [piled_cons]
    have := list_len ‹_›
    omega
  | tup h q hn r i1 i2 =>
    rw [piled_cons]
    have := fmt_text ‹_›
    omega
  | @dic vs d as ts c a bs us e ks h hk q hn r i1 i2 =>
    rw [piled_cons]
    have z := zip_len ks us hk (by rw [q.len, List.length_map])
    have := dict_len (List.zipWith (fun p u => reprText p.1 ++ ": " ++ u) ks us)
    omega
theorem one_le {t : Str} {ts : List Str} (h : t ∈ ts) : t.length + 2 ≤ piled ts := by
  induction ts with
  | nil => cases h
  | cons u ts ih =>
    rw [piled_cons]
    rcases List.mem_cons.mp h with z | z
    · subst z; omega
    · have := ih z; omega
section
variable {X : Cx} {pins : List (Addr × Obj)} {σ : L2.St} {s : Shared}
theorem kv_vals : ∀ {ks : List (Str × V)} {vs : List (Key × Value)}, KV (ks.map fun p => ((Sum.inr p.1 : Key), p.2)) vs → Vals (ks.map (·.2)) (vs.map (·.2))
  | [], _, h => by cases h; exact .nil
  | p :: ks, _, h => by
    cases h with
    | cons a b => exact .cons a.2 (kv_vals b)
theorem entries {prog : Program} {w : World} {h₀ : Heap} : ∀ (ks : List (Str × V)) (vs : List (Key × Value)) (es : List DictEntry) (us : List Str),
    KV (ks.map fun p => ((Sum.inr p.1 : Key), p.2)) vs → Pairs (mixKind prog w) es vs → (∀ p ∈ ks, p.1.length ≤ 100 ∧ ∀ k ∈ p.1.cps.toList, k < 16 ^ 8) →
    (∀ ws : List Value, Vals (ks.map (·.2)) ws → ReprAllK prog w bs h₀ d ws us) →
    ReprEntriesK prog w bs h₀ d es (List.zipWith (fun p u => reprText p.1 ++ ": " ++ u) ks us)
  | [], _, es, us, hv, hp, _, _ => by
    cases hv
    cases hp
    exact .nil
  | p :: ks, vs, es, us, hv, hp, hk, hr => by
    cases hv with
    | @cons _ q _ vs' h1 h2 =>
      obtain ⟨h1a, h1b⟩ := h1
      cases hp with
      | @cons en _ es' _ hi hj hp' =>
        have h0 := hr (q.2 :: vs'.map (·.2)) (.cons h1b (kv_vals h2))
        cases us with
        | nil => cases h0
        | cons u us =>
          have rest : ∀ ws : List Value, Vals (ks.map (·.2)) ws → ReprAllK prog w bs h₀ d ws us := fun ws hw => by
            have z := hr (q.2 :: ws) (.cons h1b hw)
            cases z with
            | cons _ z2 => exact z2
          have r2 := entries ks vs' es' us h2 hp' (fun x hx => hk x (List.mem_cons_of_mem _ hx)) rest
          obtain ⟨z1, z2⟩ := hk p List.mem_cons_self
          have hkey : ∃ t, en.key = .str p.1 t := by
            obtain ⟨q1, q2⟩ := q
            have e1 : Sum.inr p.1 = q1 := h1a
            subst e1
            obtain ⟨t, e⟩ := Value.isStrOf_shape (x := p.1) (v := en.key) hi
            exact ⟨t, e⟩
          obtain ⟨t, ek⟩ := hkey
          rw [List.zipWith_cons_cons]
          refine .cons (e := en) ?_ ?_ r2
          · rw [ek]
            exact .of_is (ReprIs.str p.1 t (by
              have := StrLaws.reprText_len p.1 z2
              rw [sizeLine_eq]
              omega)) _ _ _
          · rw [hj]
            cases h0 with
            | cons z _ => exact z
theorem Shw.runs (I : Inv X pins σ H s) (h : Shw H vs d as ts c) : c ≤ sizeLine → ∀ ws : List Value, Vals vs ws → ReprAllK X.prog X.w as s.heap d ws ts := by
  induction h with
  | nil =>
    intro _ ws r
    cases r
    exact .nil
  | non r ih =>
    intro hc ws rv
    cases rv with
    | cons r1 r2 =>
      cases (show _ = Value.none from r1)
      exact .cons (.of_is ReprIs.none _ _ _) (ih (by omega) _ r2)
  | bl b r ih =>
    intro hc ws rv
    cases rv with
    | cons r1 r2 =>
      cases (show _ = Value.bool b from r1)
      cases b <;> exact .cons (.of_is (ReprIs.bool _) _ _ _) (ih (by omega) _ r2)
  | int i hi r ih =>
    intro hc ws rv
    cases rv with
    | cons r1 r2 =>
      obtain ⟨t, rfl⟩ := r1
      refine .cons (.of_is (ReprIs.int t ?_) _ _ _) (ih (by omega) _ r2)
      by_cases h0 : i.natAbs = 0
      · rw [h0]; decide
      · exact (Nat.log2_lt h0).mpr (Nat.lt_trans hi (by decide +kernel))
  | str x hx hk r ih =>
    intro hc ws rv
    cases rv with
    | cons r1 r2 =>
      obtain ⟨t, rfl⟩ := r1
      refine .cons (.of_is (ReprIs.str x t ?_) _ _ _) (ih (by omega) _ r2)
      have := StrLaws.reprText_len x hk
      rw [sizeLine_eq]
      omega
  | @lst vs d as ts c a xs bs us e h q hn r i1 i2 =>
    intro hc ws rv
    cases rv with
    | cons r1 r2 =>
      cases (show _ = Value.ref a from r1)
      obtain ⟨_, its, n, rx, hg⟩ := (show ObjOk X.prog X.w H s.heap a (.lst xs) from I.hok a _ h)
      have k := i1 (by omega) its rx
      have k2 := (i2 (by omega) _ r2).more_le (as' := (a :: bs) ++ as) (fun b hb => List.mem_append_right _ hb) (Nat.le_refl _)
      refine .cons ?_ k2
      have one : ReprK X.prog X.w (a :: bs) s.heap (d + 1) (.ref a) (listText us) := by
        cases its with
        | nil =>
          cases k
          exact .listEmpty hg rfl rfl
        | cons y l => exact .list hg rfl rfl hn (by simpa using k.length_eq) fun i z hz => k.item i z (by simpa using hz)
      exact one.more fun b hb => List.mem_append_left _ hb
  | @tup vs d as ts c a xs bs us e h q hn r i1 i2 =>
    intro hc ws rv
    cases rv with
    | cons r1 r2 =>
      cases (show _ = Value.ref a from r1)
      obtain ⟨_, its, rx, ob, hg, hcl, n, hd⟩ := (show ObjOk X.prog X.w H s.heap a (.tup xs) from I.hok a _ h)
      have k := i1 (by omega) its rx
      have k2 := (i2 (by omega) _ r2).more_le (as' := (a :: bs) ++ as) (fun b hb => List.mem_append_right _ hb) (Nat.le_refl _)
      exact .cons ((ReprK.tuple hg hcl hd hn k).more fun b hb => List.mem_append_left _ hb) k2
  | @dic vs d as ts c a bs us e ks h hk q hn r i1 i2 =>
    intro hc ws rv
    cases rv with
    | cons r1 r2 =>
      cases (show _ = Value.ref a from r1)
      obtain ⟨_, hsm, vv, rk, ob, es, ep, hg, hex, hd, _, hp, _⟩ := (show ObjOk X.prog X.w H s.heap a (.dK (ks.map fun p => (Sum.inr p.1, p.2))) from I.hok a _ h)
      have k2 := (i2 (by omega) _ r2).more_le (as' := (a :: bs) ++ as) (fun b hb => List.mem_append_right _ hb) (Nat.le_refl _)
      exact .cons ((ReprK.dict hg hex.1 hd hsm hn (entries ks vv es.toList us rk hp hk fun ws hw => i1 (by omega) ws hw)).more fun b hb => List.mem_append_left _ hb) k2
/-- repr(x), x a list -/
theorem call_reprL (hg : X.A.guards = some []) (hu : X.A.units + 64 < cLine) : CallR X (.builtin "repr") (fun vs H Q => ∃ (p : Addr) (d : Nat) (as : List Addr) (t : Str) (c : Nat), vs = [.ref p] ∧ (∃ xs, H p = some (.lst xs)) ∧ Shw H [.ref p] d as [t] c ∧ d ≤ 60 ∧ c ≤ 16000000 ∧ Q (.str t) H) := by
  intro pins s σ H xs us Q I r h
  obtain ⟨p, d, as, t, c, rfl, ⟨xs, hp⟩, hs, hd, hc, q⟩ := h
  obtain ⟨u, rfl, rfl⟩ := vals1 r
  have hz : sizeLine = 16777216 := sizeLine_eq
  have hcost := hs.cost
  rw [piled_cons] at hcost
  obtain ⟨_, its, n, rx, hgt⟩ := (show ObjOk X.prog X.w H s.heap p (.lst xs) from I.hok p _ hp)
  cases hs with
  | @lst _ d0 _ _ _ _ ys bs ts e hp' q1 hn r1 =>
    cases r1
    rw [hp] at hp'
    cases hp'
    have k := q1.runs I (by omega) its rx
    refine call_repr_slot (T := "list") (idr := "list.__repr__") (by omega) ⟨_, hgt, rfl⟩ PySem.F.slot_list_repr.toG ?_
    cases its with
    | nil =>
      cases k
      exact call_list_repr_empty ⟨_, hgt, rfl⟩ hgt rfl ⟨_, _, rfl, .str _, H, I.tok _, ⟨_, rfl⟩, q⟩
    | cons y l =>
      refine call_list_reprK (g := []) hgt rfl rfl hn (by simpa using k.length_eq) (fun i z hz => k.item i z (by simpa using hz)) hg (fun b _ => Clear.nil b) ?_ (fun _ _ e => e) (fun h' u tk hk => ?_) (by omega)
      · show X.A.units + 1 + (d0 + 1) < cLine
        omega
      · exact ⟨_, _, rfl, .str _, H, I.kept (t' := tk) hk, ⟨_, rfl⟩, q⟩
  | tup hp' => rw [hp] at hp'; cases hp'
  | dic ks hp' => rw [hp] at hp'; cases hp'
end
end V0
/-! Promises of defs that are called where nothing is being printed (guards empty). -/
namespace V0
open PySem PySem.Spec PyProof.Rows L2
/-- a def's promise, wherever it is called with nothing being printed -/
structure Ok0 (P : Program) (w : World) (K : PySem.W.Frag) (mg : PySem.Str → Option Value) (base : Heap) (k : Nat)
    (f : Addr) (fd : FuncData) (ps : List PySem.Str) (sp : Sp) : Prop where
  cnt : ∀ vs H Q E, sp vs H Q E → vs.length = ps.length
  go : ∀ (A : Around) (outer : List Env) (s : Shared) (H : Hp) (args : Args) (us : List Value) (vs : List V) (Q : VK) (E : XK),
    A.guards = some [] → Room k A → Env0 P w K mg base A outer s H → BindsTo s fd args (ps.zip us) → Vals vs us → sp vs H Q E →
    codeAny (model P w) A (.call (.ref f) args) (CR CX0 outer P w H s Q E) s
section
variable {P : Program} {w : World} {K : PySem.W.Frag} {mg : PySem.Str → Option Value} {base : Heap} {k : Nat} {f : Addr} {fd : FuncData}
theorem Ok0.mk_of {x qual : PySem.Str} {st : Stmt} {N ps : List PySem.Str} {sp : Sp} (F : Fun K x qual st f fd) (S : FnScope N ps (defScope st))
    (cnt : ∀ vs H Q E, sp vs H Q E → vs.length = ps.length)
    (body : ∀ (cdv : Value) (A : Around) (outer : List Env) (s : Shared) (H : Hp) (vs : List V) (Q : VK) (E : XK), A.guards = some [] →
      Room k (A.deeper (envOfC qual (defScope st) s.heap.objs.size f cdv)) → sp vs H Q E →
      ∃ t, PSs (cxOf CX0 P w K mg base N qual (defScope st) f cdv A outer s H E).nox (defBody st) t ∧ t { nx := fun _ H' => Q .non H', rt := Q } (start N vs) H) :
    Ok0 P w K mg base (k + 1) f fd ps sp := by
  obtain ⟨oc, od, kV, doc, pm, an, cdv, ct, osl, rfl, lk, hcd⟩ := F.ex
  refine ⟨cnt, ?_⟩
  intro A outer s H args us vs Q E hgd hr e0 hb r hsp
  have kept : ∀ b o, base.get? b = some o → s.heap.get? b = some o := fun b o e => (e0.bs b o e).1
  have KX : K.In s.heap := e0.mod.kin.keeps kept
  have par : ∀ y ∈ ps.zip us, (defScope st).names.lookup y.1 = some .local ∨
      ((defScope st).names.lookup y.1 = some .cell ∧ ((cellsFrom (s.heap.objs.size + 1) (defScope st).names []).lookup y.1).isSome = true) := by
    rintro ⟨n, v⟩ hy
    rcases S.par n (List.of_mem_zip hy).1 with q | q
    · exact .inl q
    · exact .inr ⟨q, PySem.W.cellsFrom_some _ _ _ (.inl q)⟩
  have entry := hb
  refine codeAny_call_function hr.depth (KX _ _ lk) rfl S.co S.gen rfl (PySem.W.codeRec_of KX hcd) (entry _ _ _ _ ?_)
  refine wpAny_newFunctionEnv_cells S.kind par ?_
  intro env he s1 x
  subst he
  refine ⟨(e0.mod.nolimit.keeps kept).keeps x.toInCall.keep, codeAny_func ?_⟩
  obtain ⟨t, ht, hq⟩ := body cdv A outer s H vs Q E hgd (hr.deeper _) hsp
  have I := inv_start (CX := CX0) (E := E) S hr.hd e0 (cnt _ _ _ _ hsp) r x
  have fin : ∀ {σ' : L2.St} {s' : Shared} {H' : Hp} {v : V} {u : Value},
      Inv (cxOf CX0 P w K mg base N qual (defScope st) f cdv A outer s H E) [] σ' H' s' → RelV v u → Q v H' → CE outer P w H s Q u s' := by
    intro σ' s' H' v u J rv q
    exact ⟨v, H', J.os, J.bare, J.base, J.hok, rv, q⟩
  refine wpAny_mono (ht.nox.run [] s1 (start N vs) H _ I hq) ?_ (fun e s' hs => hs)
  intro fl s' hs
  cases fl with
  | ret u => obtain ⟨v, σ', H', J, rv, q⟩ := hs; exact fin J rv q
  | next => obtain ⟨σ', H', J, q⟩ := hs; exact fin (v := V.non) (u := Value.none) J rfl q
  | brk => obtain ⟨_, _, _, q⟩ := hs; exact q.elim
  | cont => obtain ⟨_, _, _, q⟩ := hs; exact q.elim
end
section
variable {X : Cx} {k : Nat} {f : Addr} {fd : FuncData} {ps : List PySem.Str} {sp : Sp} {x : PySem.Str} {p pos : Pos} {e : Expr} {es : List Expr} {t : TA}
/-- f(..) of such a def -/
theorem pe_call00 (F : Ok0 X.prog X.w X.K X.mg X.base k f fd ps sp) (hgd : X.A.guards = some []) (hr : Room k X.A) (hg : Gl X x) (hm : X.mg x = some (.ref f)) (hk : PySem.W.keepIn X.K (.ref f) = true)
    (hb : Binds X.K fd ps []) (ha : PA X (e :: es) t) (hdb : (x == ("__debug__" : PySem.Str)) = false := by decide)
    (he : starEach (e :: es) X.env = (false, eval e X.env) :: starEach es X.env := by rfl) (hpl : (backTo pos (starEach es X.env)).any (·.1) = false := by rfl) :
    PE X (.Call (.Name x p) (e :: es) [] pos) (fun σ H Q => t σ H fun vs H1 => sp vs H1 Q E0) := by
  constructor
  intro pins s σ H Q I h
  refine wpAny_Call_Name_kw (ld_glob I hg hm ?_ hdb)
  refine PySem.W.callWith_K (h₀ := X.base) I.ok.mod.kin hk (thn (ha.run pos pins s σ H _ I h) ?_) he hpl
  rintro us s1 ⟨vs, H1, I1, r, q⟩
  refine ⟨I1.kIn, ?_⟩
  have hl : us.length = ps.length := by rw [← r.length]; exact F.cnt _ _ _ _ q
  have hb1 := hb s1 us I1.kIn (by simpa using hl)
  rw [List.append_nil] at hb1
  refine wpAny_call (codeAny_mono (F.go X.A X.stack s1 H1 ⟨us, []⟩ us vs Q E0 hgd hr I1.env0 hb1 r q) ?_)
  intro r' s' hq
  cases r' with
  | error e => exact hq.elim
  | ok fl =>
    cases fl with
    | ret u => exact I1.after hq
    | next => exact hq.elim
    | brk => exact hq.elim
    | cont => exact hq.elim
end
end V0
/-! The law's own call, from a promise that wants empty guards. -/
namespace V0
open PySem PySem.Spec PyProof.Rows L2
section
variable {P : Program} {w : World} {K : PySem.W.Frag} {mg mb : PySem.Str → Option Value} {k : Nat} {fa a : Addr} {fd : FuncData} {x : PySem.Str} {sp : Sp} {s₁ : Shared} {vs : List Value} {ns : List Int}
/-- from an abstract heap that tracks at most the script -/
theorem law_core {H : Hp} (KX : K.In s₁.heap) (hns : s₁.heap.Ns mainGlobals mg) (hb : s₁.heap.Ns builtinsNs mb) (hbb : ∀ x : PySem.Str, x ≠ "__name__" → mb x = bootBuiltins x) (hlim : s₁.heap.NoLimit) (hg : s₁.gens = #[])
    (ha : s₁.heap.get? a = some { cls := .type "list", data := .seq vs.toArray }) (hr : Room k callerA)
    (F : ∀ base : Heap, K.In base → base.Ns mainGlobals mg → Ok0 P w K mg base k fa fd [x] sp) (hbind : ∀ (s : Shared) (u : Value), BindsTo s fd ⟨[u], []⟩ [(x, u)])
    (hO : Only H) (hsp : sp [.ref a] H (fun v _ => v = .bl true) fun _ _ _ => False) (hok : HOk P w H s₁.heap) (hA : ∀ b, H b ≠ none → b = a) (hK : H a ≠ none → K.lookup a = none) :
    codeAny (model P w) callerA (.call (.ref fa) ⟨[.ref a], []⟩) (fun r s' => r = .ok (.ret (.bool true)) ∧ OldK s₁.heap s'.heap ∧ s'.os = s₁.os ∧ AllBare s'.gens) s₁ := by
  have dictFree : ∀ {b : Addr} {o : Obj} {es : Array DictEntry} {ep : Nat}, s₁.heap.get? b = some o → o.data = .dict es ep → H b = none := by
    intro b o es ep e d
    rcases Option.eq_none_or_eq_some (H b) with q | ⟨u, q⟩
    · exact q
    · have e' := hA b (by rw [q]; simp)
      rw [e', ha] at e
      cases e
      exact absurd (show Data.seq vs.toArray _ = Data.dict es ep from d) (by simp)
  have ns' : ∀ {b : Addr} {m : PySem.Str → Option Value}, s₁.heap.Ns b m → (hidT s₁.heap H).Ns b m := by
    rintro b m ⟨o, es, ep, e, d, r⟩
    exact ⟨o, es, ep, hidT_get e (dictFree e d), d, r⟩
  have kin : K.In (hidT s₁.heap H) := by
    intro b o e
    refine hidT_get (KX b o e) ?_
    rcases Option.eq_none_or_eq_some (H b) with q | ⟨u, q⟩
    · exact q
    · have e' := hA b (by rw [q]; simp)
      rw [e'] at e q
      rw [hK (by rw [q]; simp)] at e
      cases e
  obtain ⟨mc, l1, l2⟩ := hlim
  have M : Mod K mg (hidT s₁.heap H) := ⟨kin, ns' hns, ⟨mb, ns' hb, hbb⟩, ⟨mc, ns' l1, l2⟩⟩
  have e0 : Env0 P w K mg (hidT s₁.heap H) callerA [] s₁ H :=
    { frames := rfl, mod := M, bs := fun b o e => of_hidT e, bsz := Nat.le_of_eq (hidT_size _ _), funs := trivial, frf := fun b hb => (by cases hb), hok := hok, bare := .of_eq hg }
  refine codeAny_mono ((F _ kin (ns' hns)).go callerA [] s₁ H ⟨[.ref a], []⟩ [.ref a] [.ref a] _ _ rfl hr e0 (hbind s₁ (.ref a)) (.cons rfl .nil) hsp) ?_
  intro r s' h
  cases r with
  | error e => exact h.elim
  | ok fl =>
    cases fl with
    | next => exact h.elim
    | brk => exact h.elim
    | cont => exact h.elim
    | ret u =>
      obtain ⟨v, H', os, bare, un, hok', r', q⟩ := h
      obtain rfl : v = .bl true := q
      obtain rfl : u = Value.bool true := r'
      refine ⟨rfl, OldK.of_keep ?_, os, bare⟩
      intro b o e
      rcases Option.eq_none_or_eq_some (H b) with q | ⟨u, q⟩
      · exact un.keep b o e q (by intro z; cases z) (by simp)
      · rcases hO b with z | ⟨ob, xs, z⟩
        · rw [q] at z; cases z
        · have y1 := (hok b _ z).1
          have y2 := (hok' b _ (un.frzs b ob _ z)).1
          rw [e] at y1
          cases y1
          exact y2
theorem law_end (KX : K.In s₁.heap) (hns : s₁.heap.Ns mainGlobals mg) (hb : s₁.heap.Ns builtinsNs mb) (hbb : ∀ x : PySem.Str, x ≠ "__name__" → mb x = bootBuiltins x) (hlim : s₁.heap.NoLimit) (hg : s₁.gens = #[])
    (ha : s₁.heap.get? a = some { cls := .type "list", data := .seq vs.toArray }) (hi : IntsAre vs ns) (hl : ns.length ≤ sizeLine) (hr : Room k callerA)
    (F : ∀ base : Heap, K.In base → base.Ns mainGlobals mg → Ok0 P w K mg base k fa fd [x] sp) (hbind : ∀ (s : Shared) (u : Value), BindsTo s fd ⟨[u], []⟩ [(x, u)])
    (hsp : ∀ H : Hp, Only H → SqL K H a (ns.map V.int) → sp [.ref a] H (fun v _ => v = .bl true) fun _ _ _ => False) :
    codeAny (model P w) callerA (.call (.ref fa) ⟨[.ref a], []⟩) (fun r s' => r = .ok (.ret (.bool true)) ∧ OldK s₁.heap s'.heap ∧ s'.os = s₁.os ∧ AllBare s'.gens) s₁ := by
  have rv := vals_ints hi
  rcases Option.eq_none_or_eq_some (K.lookup a) with hk | ⟨o, hk⟩
  · let ob : Obj := { cls := .type "list", data := .seq vs.toArray }
    let H : Hp := fun b => if b = a then some (.frz ob (.lst (ns.map V.int))) else none
    have at_ : ∀ b, b = a → H b = some (.frz ob (.lst (ns.map V.int))) := fun b e => if_pos e
    have off : ∀ b, b ≠ a → H b = none := fun b e => if_neg e
    refine law_core (H := H) KX hns hb hbb hlim hg ha hr F hbind ?_ (hsp H ?_ (.inl (.inr ⟨ob, at_ a rfl⟩))) ?_ ?_ (fun _ => hk)
    · intro b
      by_cases e : b = a
      · exact .inr ⟨_, _, at_ b e⟩
      · exact .inl (off b e)
    · intro b
      by_cases e : b = a
      · exact .inr ⟨_, _, at_ b e⟩
      · exact .inl (off b e)
    · intro b u z
      by_cases e : b = a
      · rw [at_ b e] at z
        cases z
        subst e
        exact ⟨ha, by rw [List.length_map]; exact hl, vs, _, rv, ha⟩
      · rw [off b e] at z
        cases z
    · intro b z
      by_cases e : b = a
      · exact e
      · exact absurd (off b e) z
  · have e := KX a o hk
    rw [ha] at e
    cases e
    have lv : vs.length ≤ sizeLine := by rw [hi.length]; exact hl
    refine law_core (H := fun _ => none) KX hns hb hbb hlim hg ha hr F hbind (fun _ => .inl rfl) (hsp _ (fun _ => .inl rfl) (.inr ⟨_, vs.toArray, _, hk, rfl, rfl, rfl, by simpa using lv, by simpa using rv⟩)) ?_ (fun b z => absurd rfl z) (fun z => absurd rfl z)
    intro b u z
    cases z
end
/-- the end of a law whose promise wants empty guards -/
theorem walk_of0 {l : PySem.W.OpenLaw} {n k : Nat} {q : Program} {loose : List PySem.Str} {XP : (PySem.Str → Option Value) → Heap → Prop} {YP : World → Heap → Prop} {d : DefRec} {K : Params → PySem.W.Frag} {sp : PySem.W.Frag → Sp} {x : PySem.Str}
    (hn : l.most = some n) (hn2 : n ≤ sizeLine) (hdf : d.params.defaults = []) (hr : Room k callerA) (hY : ∀ (w : World) (h : Heap), YP w h → (K w.params).In h)
    (F : ∀ (w : World) (mg : PySem.Str → Option Value) (fa : Addr) (h : Heap), (K w.params).In h → h.Ns mainGlobals mg → mg d.name = some (.ref fa) →
      ∃ fd : FuncData, (∀ (s : Shared) (u : Value), BindsTo s fd ⟨[u], []⟩ [(x, u)]) ∧ ∀ base : Heap, (K w.params).In base → base.Ns mainGlobals mg → Ok0 l.prog w (K w.params) mg base k fa fd [x] (sp (K w.params)))
    (hsp : ∀ (K : PySem.W.Frag) (H : Hp) (a : Addr) (ns : List Int), ns.length ≤ n → Only H → SqL K H a (ns.map V.int) → sp K [.ref a] H (fun v _ => v = .bl true) fun _ _ _ => False) :
    PySem.W.WalkO q loose XP YP l.row.toRowW d [] (fun f vs => PySem.call f vs) := by
  refine Att.attach_call hn hdf ?_
  intro w s₀ s₁ mg mb fa o pm cd doc a vs ns G Y ho hd hcd hmg hobj hints hlen hg
  obtain ⟨fd, hb, hF⟩ := F w mg fa _ (hY w _ Y) G.T.g hmg
  exact law_end (hY w _ Y) G.T.g G.T.b G.T.builtins G.T.nolimit hg hobj hints (Nat.le_trans hlen hn2) hr hF hb (fun H hO hS => hsp _ H a ns hlen hO hS)
end V0
/-! Errors of own classes as values: made, asked for their class, their fields read. -/
namespace V0
open PySem PySem.Spec PyProof.Rows L2
/-- what the written part says of an error's class -/
structure ErC (K : PySem.W.Frag) (D : Addr) : Prop where
  hg : PySem.W.findIn K (.ref D) "__getattribute__" = some (some (.builtin "BaseException.__getattribute__"))
  hk : PySem.W.findIn K (.ref D) "__getattr__" = some none
  hs : PySem.W.subIn K (.ref D) (.type "BaseException") = some true
  hd : PySem.W.hasDictIn K D = true
  ha : PySem.W.findIn K (.ref D) "__class__" = some (some (.builtin "object.__class__"))
  hn : PySem.W.specialIn K (.builtin "object.__class__") "__get__" = some (some (.builtin "getset_descriptor.__get__"))
  ht : PySem.W.takesIn K (.builtin "object.__class__") = some true
  hm : PySem.W.mroIn K D (.type "object") = some true
/-- at a stands an error of the class at C with these fields -/
def Er (H : Hp) (a C : Addr) (fs : List (PySem.Str × V)) : Prop :=
  (∃ d, H a = some (exo a C (some d)) ∧ H d = some (exd d fs)) ∨ (H a = some (ExO (.ref C) a) ∧ fs = [])
theorem Er.keep {H H' : Hp} {a C : Addr} {fs : List (PySem.Str × V)} (r : Er H a C fs) (k : Same H H') : Er H' a C fs := by
  rcases r with ⟨d, h1, h2⟩ | ⟨h, e⟩
  · exact .inl ⟨d, k _ _ h1, k _ _ h2⟩
  · exact .inr ⟨k _ _ h, e⟩
section
variable {X : Cx} {pins : List (Addr × Obj)} {σ : L2.St} {H : Hp} {s : Shared} {a C : Addr} {fs : List (PySem.Str × V)}
theorem Er.inst (I : Inv X pins σ H s) (r : Er H a C fs) : ∃ ox od, PySem.W.InstAt s.heap a ox C od := by
  rcases r with ⟨d, h1, h2⟩ | ⟨h, _⟩
  · obtain ⟨t1, e⟩ := exo_at I.hok h1
    obtain ⟨mA, ⟨o, es, ep, ho, _⟩, _⟩ := exd_at I.hok h2
    exact ⟨_, some o, ⟨e, rfl, rfl, ho⟩⟩
  · have z : ObjOk X.prog X.w H s.heap a (ExO (.ref C) a) := I.hok a _ h
    obtain ⟨⟨oe, vs, e, hz, hd, _⟩, _, _⟩ := z
    obtain ⟨oc, od, oda, osl⟩ := oe
    obtain ⟨y1, y2⟩ := hz
    dsimp only at y1 y2 hd
    subst y1 y2 hd
    exact ⟨_, none, ⟨e, rfl, rfl, trivial⟩⟩
end
section
variable {X : Cx}
/-- isinstance(e, c), e such an error -/
theorem call_isEr : CallR X (.builtin "isinstance") (fun xs H Q => ∃ (a C : Addr) (fs : List (PySem.Str × V)) (c : V) (cv : Value) (b : Bool), xs = [.ref a, c] ∧ Er H a C fs ∧ ErC X.K C ∧ ClsV c cv ∧ PySem.W.kitOne X.K (.ref C) cv = some b ∧ Q (.bl b) H) := by
  intro pins s σ H xs us Q I r h
  obtain ⟨a, C, fs, c, cv, b, rfl, he, T, hc, hk, q⟩ := h
  obtain ⟨u1, u2, rfl, r1, r2⟩ := vals2 r
  cases (show u1 = Value.ref a from r1)
  have e2 := hc.eq r2
  subst e2
  obtain ⟨ox, od, J⟩ := he.inst I
  have hcl : (PySem.W.clsIn X.K C).isSome = true := by
    obtain ⟨cd, e, _⟩ := PySem.W.any_some T.hd
    rw [e]; rfl
  exact PySem.W.kia_one (PySem.W.kitx_exc hcl T.hg T.hk T.hs T.ha T.hn T.ht T.hm) I.kIn J hk (fun z => nomatch z) fun tk => ⟨.bl b, H, I.tok tk, rfl, q⟩
/-- e.f, e such an error -/
theorem pe_fldEr {e : Expr} {te : TE} {f : PySem.Str} {pos : Pos} (he : PE X e te) (hb : attributeBase e f X.env (eval e X.env) = eval e X.env := by rfl) :
    PE X (.Attribute e f pos) (fun σ H Q => te σ H fun x H1 => ∃ (a C d : Addr) (fs : List (PySem.Str × V)) (v : V), x = .ref a ∧ H1 a = some (exo a C (some d)) ∧ H1 d = some (exd d fs) ∧ ErC X.K C ∧ PySem.W.findIn X.K (.ref C) f = some none ∧ fs.lookup f = some v ∧ Q v H1) := by
  constructor
  intro pins s σ H Q I h
  refine attr_of hb (thn (he.run pins s σ H _ I h) ?_)
  rintro u s1 ⟨x, H1, I1, rx, a, C, d, fs, v, rfl, ha, hd, T, hno, l, q⟩
  cases (show u = Value.ref a from rx)
  obtain ⟨t1, e1⟩ := exo_at I1.hok ha
  obtain ⟨mA, hns, rel⟩ := exd_at I1.hok hd
  obtain ⟨od, ho, hl⟩ := lookIn_ns hns
  obtain ⟨u, hu, ru⟩ := RelO.some_of (v := v) (o := mA f) (by rw [← l]; exact rel f)
  have J : PySem.W.InstAt s1.heap a _ C (some od) := ⟨e1, rfl, rfl, ho⟩
  refine HandSPX.exc_get I1.kIn J T.hg T.hk T.hs (PySem.W.findObj_own T.hd hno rfl ?_) (handed_of ru) ⟨v, H1, I1.tok _, ru, q⟩
  rw [hl, hu]
/-- C(e, ..), C's own __init__ a def that keeps sp: the new error -/
theorem pe_oexV {k : Nat} {x : PySem.Str} {C fI : Addr} {fd : FuncData} {ps : List PySem.Str} {sp : Sp} {ta : TA} {e : Expr} {es : List Expr} {p pos : Pos} (T : OexC X.K C)
    (iC : PySem.W.findIn X.K (.ref C) "__init__" = some (some (.ref fI))) (tI : PySem.W.typeIn X.K (.ref fI) = some (.type "function"))
    (F1 : FnOk X.prog X.w X.K X.mg X.base CX0 k fI fd ps sp) (hr : Room (k + 1) X.A) (hb : Binds X.K fd ps []) (hg : Gl X x) (hm : X.mg x = some (.ref C)) (ha : PA X (e :: es) ta)
    (hdb : (x == ("__debug__" : PySem.Str)) = false := by decide) (he : starEach (e :: es) X.env = (false, eval e X.env) :: starEach es X.env := by rfl) (hpl : (backTo pos (starEach es X.env)).any (·.1) = false := by rfl) :
    PE X (.Call (.Name x p) (e :: es) [] pos) (fun σ H Q => ta σ H fun vs H1 => vs.length ≤ 1000 ∧ ∀ a, H1 a = none → sp (.ref a :: vs) (upd H1 a (exo a C none)) (fun v H2 => v = .non ∧ Q (.ref a) H2) E0) := by
  constructor
  intro pins s σ H Q I h
  obtain ⟨nm, qn, N, bs, bm, sn, sub, ab, col, dd, k0, k1, k2, k3, k5, hC, hbm⟩ := T.cls
  refine wpAny_Call_Name_kw (ld_glob I hg hm ?_ hdb)
  refine PySem.W.callWith_K (h₀ := X.base) I.ok.mod.kin T.kC (thn (ha.run pos pins s σ H _ I h) ?_) he hpl
  rintro us s1 ⟨vs, H1, I1, r1, hz, q1⟩
  refine ⟨I1.kIn, ?_⟩
  show wpAny _ _ (call (.ref C) us) _ _ _
  obtain ⟨hp, g, dr, tk, os⟩ := s1
  have fresh : hp.objs.size ≤ hp.objs.size + 1 := Nat.le_succ _
  have hq := q1 (hp.objs.size + 1) (I1.hok.fresh fresh)
  let h2 : Heap := (hp.push (PySem.W.kdv_tup us)).push (PySem.HandSPX.excO C hp.objs.size)
  have old : ∀ b o, hp.get? b = some o → h2.get? b = some o := fun b o e => Heap.get?_push_of_some _ (Heap.get?_push_of_some _ e)
  have new : h2.get? (hp.objs.size + 1) = some (PySem.HandSPX.excO C hp.objs.size) := by show ((hp.push (PySem.W.kdv_tup us)).push (PySem.HandSPX.excO C hp.objs.size)).get? (hp.objs.size + 1) = _; heap_get
  have I2 : Inv X pins σ (upd H1 (hp.objs.size + 1) (exo (hp.objs.size + 1) C none)) ⟨h2, g, dr, tk, os⟩ := I1.laid (t' := tk) old fresh (exo_ok new)
  have r2 : Vals (V.ref (hp.objs.size + 1) :: vs) (Value.ref (hp.objs.size + 1) :: us) := .cons rfl r1
  have hl : (Value.ref (hp.objs.size + 1) :: us).length = ps.length := by
    rw [← r2.length]
    exact F1.len _ _ _ _ hq
  have hus : us.length ≤ sizeLine := by
    rw [← Paired.length r1, sizeLine_eq]
    omega
  have b1 := hb ⟨h2, g, dr, tk, os⟩ (Value.ref (hp.objs.size + 1) :: us) I2.kIn (by simpa using hl)
  rw [List.append_nil] at b1
  have run := F1.run _ X.stack _ _ ⟨Value.ref (hp.objs.size + 1) :: us, []⟩ _ _ _ E0 (hr.make C us []) (I2.env0.make C us []) b1 r2 hq
  refine wpAny_call (PySem.HandSPX.call_own F.excBase_ValueError (fun Y => PySem.HandSPX.refsVE_contains Y bm hbm) (I1.kIn _ _ hC) (PySem.W.looks_findIn I1.kIn iC) (fun self => PySem.W.bind_fn I1.kIn self tI) hus (codeAny_mono run ?_))
  intro r s' hq'
  cases r with
  | error er => exact hq'.elim
  | ok fl =>
    cases fl with
    | next => exact hq'.elim
    | brk => exact hq'.elim
    | cont => exact hq'.elim
    | ret u =>
      obtain ⟨v, H', I3, rv, ev, q3⟩ := I2.after hq'
      subst ev
      exact ⟨rv, ⟨V.ref (hp.objs.size + 1), H', I3, rfl, q3⟩⟩
/-- C(), C without an own __init__: the new error -/
theorem pe_exc0 {x : PySem.Str} {C : Addr} {p pos : Pos} {bmB : List Value} {B newId initId : String} (F : ExcBaseFacts B newId initId bmB) (q : PySem.W.excIn X.K C bmB newId = true) (gC : X.mg x = some (.ref C))
    (kC : PySem.W.keepIn X.K (.ref C) = true) (hg : Gl X x) (hdb : (x == ("__debug__" : PySem.Str)) = false := by decide) :
    PE X (.Call (.Name x p) [] [] pos) (fun _ H Q => ∀ a, H a = none → Q (.ref a) (upd H a (ExO (.ref C) a))) := by
  constructor
  intro pins s σ H Q I h
  refine wpAny_Call_Name_kw (ld_glob I hg gC ?_ hdb)
  refine PySem.W.callWith_K0 I.kIn kC ?_
  show wpAny _ _ (call (.ref C) []) _ _ _
  obtain ⟨bm, N, nm, qn, bs, hdct, sn, sub, ab, col, dd, k0, k1, k2, k3, k5, mN, hC, hN, hni, T⟩ := exc_obj I.kIn q
  refine wpAny_call_exc_subT F T hC hN hni (fun h' a hm => ?_) (by show 0 ≤ sizeLine; exact Nat.zero_le _)
  have hn : H a = none := I.hok.gone hm.new
  obtain ⟨t, ht, _, _⟩ := hm.there
  exact ⟨.ref a, upd H a (ExO (.ref C) a), I.laidN hm.keeps hm.new hn (exO_ok ht ⟨rfl, rfl⟩ rfl rfl rfl (show 4 < 6 by decide)), rfl, h a hn⟩
end
end V0
/-! Lists read by place for +=, things turned about, tuples held against (). -/
namespace V0
open PySem PySem.Spec PyProof.Rows L2
section
variable {X : Cx}
/-- xs[i], read for xs[i] op= e -/
theorem pget_lst : PGet X (fun o i H Q => ∃ (p : Addr) (xs : List V) (k : Int) (v : V), o = .ref p ∧ i = .int k ∧ H p = some (.lst xs) ∧ 0 ≤ k ∧ k < 2 ^ 63 ∧ xs[k.toNat]? = some v ∧ Q v H) := by
  intro pins s σ H o i ov iv Q I ro ri h
  obtain ⟨p, xs, k, v, rfl, rfl, hp, h0, h1, hv, q⟩ := h
  cases (show ov = Value.ref p from ro)
  obtain ⟨t, rfl⟩ := ri
  obtain ⟨its, r, ht, hz⟩ := I.list (.inl (.inl hp))
  obtain ⟨u, hu, ru⟩ := r.get hv
  exact wpAny_getItem_list ht.isList h0 h1 (by simpa using hu) ⟨v, H, I, ru, q⟩
theorem rev_bounds (n : Nat) : Builtin.Slice.sliceAdjust none none (-1) (n : Int) = ((n : Int) - 1, -1) := by
  unfold Builtin.Slice.sliceAdjust
  simp
theorem rev_places (n : Nat) : Builtin.Slice.slicePlaces ((n : Int) - 1) (-1) (-1) = n := by
  unfold Builtin.Slice.slicePlaces
  have h1 : ¬ ((-1 : Int) > 0) := by omega
  simp only [h1, if_false, Int.neg_neg, Int.ediv_one]
  split <;> omega
theorem mem_picks {α : Type} {xs : Array α} {l : List Nat} {y : α} (h : y ∈ l.filterMap (xs[·]?)) : y ∈ xs.toList := by
  obtain ⟨i, _, e⟩ := List.mem_filterMap.mp h
  rw [← Array.getElem?_toList] at e
  exact List.mem_of_getElem? e
theorem tup_rev {prog : Program} {w : World} {A : Around} {E : Value → Shared → Prop} {s : Shared} {t sl : Addr} {items : Array Value} {k : Tok} {Q : Value → Shared → Prop} (ht : IsTup s.heap t items) (hs : s.heap.IsSliceOf sl .none .none (.int (-1) k))
    (h : ∀ ys : List Value, (∀ y ∈ ys, y ∈ items.toList) → ys.length ≤ items.size → Q (.ref s.heap.objs.size) { s with heap := s.heap.push { cls := .type "tuple", data := .seq ys.toArray } })
    (hsz : items.size ≤ sizeLine) : wpAny (model prog w) A (getItem (.ref t) (.ref sl)) Q E s := by
  obtain ⟨os, hos, hcs, hds⟩ := id hs
  have hTs : s.TypeIs (.ref sl) "slice" := ⟨os, hos, hcs⟩
  let ys : List Value := (List.range items.size).filterMap fun (m : Nat) => items[(((items.size : Int) - 1) + (m : Int) * (-1)).toNat]?
  have m1 : ∀ y ∈ ys, y ∈ items.toList := fun y hy => by
    obtain ⟨i, _, e⟩ := List.mem_filterMap.mp hy
    rw [← Array.getElem?_toList] at e
    exact List.mem_of_getElem? e
  have m2 : ys.length ≤ items.size := Nat.le_trans (List.length_filterMap_le _ _) (by rw [List.length_range]; exact Nat.le_refl _)
  have hq := h ys m1 m2
  have fit : sizeOk (.seq ys.toArray) := by
    show ys.toArray.size ≤ sizeLine
    rw [List.size_toArray]
    omega
  unfold getItem
  try with_reducible refine wpAny_holding ?_
  first | refine wpAny_bind (wpAny_pure ?_) | skip
  refine wpAny_bind (wpAny_sequenceKey ht.typeIs (by decide) ?_)
  refine wpAny_bind (wpAny_callSpecial?_slot (name := PySem.Str.ofString "__getitem__") ht.typeIs PyProof.Rows.slot_tuple_getitem (wpAny_call_entry PyProof.Rows.slot_tuple_getitem ht.typeIs entry_tuple_getitem ?_ (args_tuple_getitem _ _)))
  show wpAny _ _ (Builtin.Tuple.tupleItemsOf (.ref t) >>= _) _ _ s
  refine wpAny_bind (tupleItemsOf_ ht (wpAny_bind (wpAny_typeOf hTs ?_)))
  rw [if_pos (by decide)]
  have applied : ∀ {Q' : Int × Int × Nat → Shared → Prop}, Q' ((items.size : Int) - 1, -1, items.size) s → ∀ {E' : Value → Shared → Prop} {A' : Around}, wpAny (model prog w) A' (Builtin.Slice.sliceApplied (.ref sl) (pure (items.size : Int))) Q' E' s := by
    intro Q' hq' E' A'
    unfold Builtin.Slice.sliceApplied Builtin.Slice.sliceFields
    refine wpAny_bind (wpAny_bind (wpAny_field hos hds (x := .none) rfl (wpAny_bind (wpAny_field hos hds (x := .none) rfl (wpAny_bind (wpAny_field hos hds (x := .int (-1) k) rfl (wpAny_pure ?_)))))))
    refine wpAny_bind (slicePart_int ?_)
    show wpAny _ _ (if ((-1 : Int) == 0) = true then _ else _) _ _ s
    rw [if_neg (by decide)]
    refine wpAny_bind (slicePart_none (wpAny_bind (slicePart_none (wpAny_bind (wpAny_pure ?_)))))
    show wpAny _ _ (match Builtin.Slice.sliceAdjust none none (-1) (items.size : Int) with | (lo, hi) => pure (lo, (-1 : Int), Builtin.Slice.slicePlaces lo hi (-1))) _ _ s
    rw [rev_bounds]
    show wpAny _ _ (pure ((items.size : Int) - 1, (-1 : Int), Builtin.Slice.slicePlaces ((items.size : Int) - 1) (-1) (-1))) _ _ s
    rw [rev_places]
    exact wpAny_pure hq'
  refine wpAny_bind (applied ?_)
  have no : ¬ ((((items.size : Int) - 1) == 0 && (-1 : Int) == 1 && items.size == items.size) = true) := by
    intro q
    rw [Bool.and_eq_true, Bool.and_eq_true] at q
    exact absurd q.1.2 (by decide)
  show wpAny _ _ (if (((items.size : Int) - 1) == 0 && (-1 : Int) == 1 && items.size == items.size) = true then _ else _) _ _ s
  rw [if_neg no]
  first
    | exact wpAny_bind (m := Builtin.Tuple.tupleExact _) (wpAny_newObj_type (wpAny_pure ⟨_, rfl, wpAny_pure hq⟩) fit)
    | exact wpAny_bind (m := Builtin.Tuple.tupleExact _) (wpAny_newObj_type (wpAny_bind (wpAny_pure (wpAny_pure ⟨_, rfl, wpAny_pure hq⟩))) fit)
    | exact wpAny_bind (wpAny_bind (m := Builtin.Tuple.tupleExact _) (wpAny_newObj_type (wpAny_pure (wpAny_pure ⟨_, rfl, wpAny_pure hq⟩)) fit))
    | exact wpAny_bind (wpAny_bind (m := Builtin.Tuple.tupleExact _) (wpAny_newObj_type (wpAny_pure ⟨_, rfl, wpAny_pure hq⟩) fit))
/-- t == () -/
theorem op_eqT0 (hu : X.A.units < cLine) : OpR X (compareOp .Eq) (fun x y H Q => ∃ (a b : Addr) (xs : List V), x = .ref a ∧ y = .ref b ∧ SqT X.K H a xs ∧ SqT X.K H b [] ∧ Q (.bl xs.isEmpty) H) := by
  intro pins s σ H x y v u Q I rx ry h
  obtain ⟨a, b, xs, rfl, rfl, ha, hb, q⟩ := h
  cases (show v = Value.ref a from rx)
  cases (show u = Value.ref b from ry)
  obtain ⟨i1, r1, p1, _⟩ := I.tuple ha
  obtain ⟨i2, r2, p2, _⟩ := I.tuple hb
  cases r2
  refine SeqAt.eq_tupleAt (e := fun _ => true) p1 p2 hu (fun j _ h2 => absurd h2 (Nat.not_lt_zero j)) ?_
  refine ⟨.bl xs.isEmpty, H, I, ?_, q⟩
  cases r1 with
  | nil => rfl
  | cons c d => simp [L2.RelV]
theorem cut_mem {z : PySem.Str} {lo hi : Option Int} {k : Nat} (h : k ∈ (cutS z lo hi).cps.toList) : k ∈ z.cps.toList := by
  have h' : k ∈ (z.cps.toList.drop (HT.sIx z.length 0 lo)).take (HT.sIx z.length z.length hi - HT.sIx z.length 0 lo) := h
  exact List.mem_of_mem_drop (List.mem_of_mem_take h')
/-- x[::-1], x a text or a tuple: some arrangement of its items -/
theorem pe_rev {e : Expr} {te : TE} {k : Nat} {p1 p2 p3 pos : Pos} (he : PE X e te) : PE X (.Subscript e (.Slice none none (some (.UnaryOp .USub (.Constant (.int 1) k p1) p2)) p3) pos)
    (fun σ H Q => te σ H fun x H1 => (∃ z, x = .str z ∧ z.length ≤ sizeLine ∧ ∀ y : PySem.Str, y.length ≤ z.length → (∀ k ∈ y.cps.toList, k ∈ z.cps.toList) → Q (.str y) H1) ∨
      (∃ a xs, x = .ref a ∧ SqT X.K H1 a xs ∧ ∀ p ys, H1 p = none → (∀ y ∈ ys, y ∈ xs) → ys.length ≤ xs.length → Q (.ref p) (upd H1 p (.tup ys)))) := by
  constructor
  intro pins s σ H Q I h
  refine Subscript_ (thn (he.run pins s σ H _ I h) ?_)
  rintro v s1 ⟨x, H1, I1, r1, q1⟩
  have hst : PO X (some (.UnaryOp .USub (.Constant (.int 1) k p1) p2)) (tPart (tUn (rU fun i => .int (-i)) (tC (.int 1)))) := po_some (pe_un un_neg pe_int)
  refine wpAny_Slice (thn (po_none.run pins s1 σ H1 (fun o H2 => o = none ∧ H2 = H1) I1 ⟨rfl, rfl⟩) ?_)
  rintro vl s2 ⟨l, H2, I2, pl, rfl, rfl⟩
  refine thn (po_none.run pins s2 σ H2 (fun o H3 => o = none ∧ H3 = H2) I2 ⟨rfl, rfl⟩) ?_
  rintro vu s3 ⟨u, H3, I3, pu, rfl, rfl⟩
  refine thn (hst.run pins s3 σ H3 (fun o H4 => o = some (-1) ∧ H4 = H3) I3 ⟨1, rfl, -1, rfl, rfl, rfl⟩) ?_
  rintro vs s4 ⟨o, H4, I4, ps, rfl, rfl⟩
  cases pl
  cases pu
  obtain ⟨tk, rfl⟩ : ∃ tk, vs = .int (-1) tk := by cases ps with | int i t => exact ⟨t, rfl⟩
  have I5 : Inv X pins σ H4 { s4 with heap := s4.heap.push { cls := .type "slice", data := .fields #[Value.none, Value.none, .int (-1) tk] } } := I4.kept (t' := s4.toks) fun b ob q => Heap.get?_push_of_some _ q
  show wpAny (model X.prog X.w) X.A (subscriptTail e (.Slice none none (some (.UnaryOp .USub (.Constant (.int 1) k p1) p2)) p3) v (.ref s4.heap.objs.size)) (EP X pins σ Q) X.xe _
  rcases q1 with ⟨z, rfl, hz, q⟩ | ⟨a, xs, rfl, hx, q⟩
  · obtain ⟨t, rfl⟩ := r1
    refine tail_any (ops := [.str z t, .ref s4.heap.objs.size]) (typeIs_str _ z t) F.slot_str_getitem.lookup ?_ (by with_unfolding_all rfl)
    refine wpAny_getItem_str_slice (l := none) (u := none) (st := some (-1, tk)) ⟨_, Heap.get?_push_size _ rfl, rfl, rfl⟩ rfl ?_
    let y : PySem.Str := ⟨((slicePicked z none none (some (-1, tk))).filterMap (z.cps[·]?)).toArray⟩
    have e1 : slicePicked z none none (some (-1, tk)) = (List.range z.length).map fun k => z.length - 1 - k := by
      show Builtin.Str.strSliceIndices none none (-1) z.length = _
      unfold Builtin.Str.strSliceIndices
      simp only [show ¬ ((-1 : Int) > 0) by decide, if_false]
      exact PySem.W.krv_sliceRange z.length
    have e2 : y.length ≤ z.length := by
      show (((slicePicked z none none (some (-1, tk))).filterMap (z.cps[·]?)).toArray).size ≤ z.length
      rw [List.size_toArray]
      refine Nat.le_trans (List.length_filterMap_le _ _) ?_
      rw [e1, List.length_map, List.length_range]
      exact Nat.le_refl _
    have e3 : ∀ k ∈ y.cps.toList, k ∈ z.cps.toList := fun k hk => mem_picks hk
    have hq := q y e2 e3
    unfold sliceMade
    rw [if_neg (by intro c; exact absurd (show ((-1 : Int) == 1) = true from (Bool.and_eq_true_iff.mp c).1) (by decide))]
    exact ⟨by show y.length ≤ sizeLine; omega, .str y, H4, I5.tok _, ⟨_, rfl⟩, hq⟩
  · cases (show v = Value.ref a from r1)
    obtain ⟨its, r, ht, hz⟩ := I5.tuple hx
    refine tail_any (ops := [.ref a, .ref s4.heap.objs.size]) ht.typeIs PyProof.Rows.slot_tuple_getitem.lookup ?_ (by with_unfolding_all rfl)
    refine tup_rev ht (Heap.IsSliceOf.new _ _ _ _) (fun ys hy hl => ?_) (by rw [List.size_toArray, ← r.length]; exact hz)
    obtain ⟨zs, rz, hzs⟩ : ∃ zs : List V, Vals zs ys ∧ ∀ y ∈ zs, y ∈ xs := by
      clear hl
      induction ys with
      | nil => exact ⟨[], .nil, fun y hy => by cases hy⟩
      | cons y ys ih =>
        obtain ⟨zs, rz, hzs⟩ := ih fun w hw => hy w (List.mem_cons_of_mem _ hw)
        obtain ⟨j, hj⟩ := List.mem_iff_getElem?.mp (hy y List.mem_cons_self)
        have hj' : its[j]? = some y := by simpa using hj
        rcases Option.eq_none_or_eq_some (xs[j]?) with n | ⟨x, n⟩
        · have := r.none_of n
          rw [this] at hj'; cases hj'
        · obtain ⟨u, hu, ru⟩ := r.get n
          rw [hj'] at hu
          cases hu
          exact ⟨x :: zs, .cons ru rz, fun w hw => by
            rcases List.mem_cons.mp hw with e | e
            · exact e ▸ List.mem_of_getElem? n
            · exact hzs w e⟩
    have hlen : zs.length ≤ xs.length := by
      rw [rz.length, r.length]
      rw [List.size_toArray] at hl
      exact hl
    have hn := I5.hok.fresh (Nat.le_refl _)
    refine ⟨.ref _, _, I5.laid (t' := s4.toks) (o := .tup zs) (fun b ob q => Heap.get?_push_of_some _ q) (Nat.le_refl _) ?_, rfl, q _ zs hn hzs hlen⟩
    exact ⟨by omega, _, rz, IsTup.new _ _⟩
end
end V0
/-! The draws. -/
namespace V0
open PySem PySem.Spec PyProof.Rows L2
def topS (i : Nat) : Stmt := PySem.Challenge.pw_packsworn_k00_errors_of_any_value.main.body.getD i (.Pass ⟨0, 0, 0, 0⟩)
abbrev sTake : Stmt := topS 15
abbrev sOne : Stmt := topS 16
theorem scTake : FnScope ["bag", "many", "cell", "stirred", "value", "begin", "second"] ["bag", "many"] (defScope sTake) := ⟨rfl, rfl, rfl, by decide +kernel, rfl, by decide +kernel, by decide +kernel⟩
theorem scOne : FnScope ["bag", "things"] ["bag", "things"] (defScope sOne) := ⟨rfl, rfl, rfl, by decide +kernel, rfl, by decide +kernel, by decide +kernel⟩
/-- all but b is as it was -/
def Chg (b : Addr) (H H' : Hp) : Prop := ∀ a o, a ≠ b → H a = some o → H' a = some o
theorem Chg.refl {b : Addr} {H : Hp} : Chg b H H := fun _ _ _ h => h
theorem Chg.trans {b : Addr} {H H1 H2 : Hp} (x : Chg b H H1) (y : Chg b H1 H2) : Chg b H H2 := fun a o n h => y a o n (x a o n h)
theorem Chg.new {b p : Addr} {o : HO} {H : Hp} (h : H p = none) : Chg b H (upd H p o) := fun a u _ e => by rw [upd_ne (ne_of_none e h)]; exact e
theorem Chg.set {b : Addr} {o : HO} {H : Hp} : Chg b H (upd H b o) := fun a u n e => by rw [upd_ne n]; exact e
theorem Chg.same {b : Addr} {H H' : Hp} (h : Same H H') : Chg b H H' := fun a o _ e => h a o e
theorem new_ne {H : Hp} {a p : Addr} {o u : HO} (ha : H a = some o) (hp : H p = none) : (upd H p u) a = some o := by rw [upd_ne (ne_of_none ha hp)]; exact ha
theorem new_same {H : Hp} {p : Addr} {o : HO} (h : H p = none) : Same H (upd H p o) := fun a u e => new_ne e h
/-- the bag at b -/
def Bag (H : Hp) (b : Addr) : Prop := ∃ (n m k : Int) (l : Addr) (cs : List Int), H b = some (.lst [.int n, .int m, .int k, .ref l]) ∧ H l = some (.lst (cs.map V.int)) ∧ l ≠ b ∧ 0 ≤ n ∧ 0 ≤ m ∧ m < 2147483647 ∧ cs.length ≤ 63 ∧ ∀ c ∈ cs, 0 ≤ c
theorem head_int {cs : List Int} (hc : ∀ c ∈ cs, 0 ≤ c) (lo hi : Option Int) : ∃ c : Int, 0 ≤ c ∧ atI (cutV (cs.map V.int) lo hi ++ [.int 0]) 0 = some (.int c) := by
  have sub : ∀ v ∈ cutV (cs.map V.int) lo hi, ∃ c, 0 ≤ c ∧ v = .int c := fun v hv => by
    have h1 := List.mem_of_mem_drop (List.mem_of_mem_take hv)
    obtain ⟨c, hc', e⟩ := List.mem_map.mp h1
    exact ⟨c, hc c hc', e.symm⟩
  generalize cutV (cs.map V.int) lo hi = zs at sub
  cases zs with
  | nil => exact ⟨0, by omega, rfl⟩
  | cons v zs =>
    obtain ⟨c, h0, rfl⟩ := sub v List.mem_cons_self
    exact ⟨c, h0, atI_nat (j := 0) rfl⟩
section
variable {P : Program} {w : World} {K : PySem.W.Frag} {mg : PySem.Str → Option Value} {base : Heap}
/-- what stands fourth stays -/
def Fo (b : Addr) (H H' : Hp) : Prop := ∀ x y z l, H b = some (.lst [x, y, z, l]) → ∃ x y z, H' b = some (.lst [x, y, z, l])
theorem fo {b : Addr} {H H' : Hp} {x y z x' y' z' l : V} (h : H b = some (.lst [x, y, z, l])) (h' : H' b = some (.lst [x', y', z', l])) : Fo b H H' := by
  intro p q r s e
  rw [h] at e
  cases e
  exact ⟨_, _, _, h'⟩
theorem Fo.then {b : Addr} {H H1 H' : Hp} {x y z x' y' z' l : V} (f : Fo b H H1) (h : H1 b = some (.lst [x, y, z, l])) (h' : H' b = some (.lst [x', y', z', l])) : Fo b H H' := by
  intro p q r s e
  obtain ⟨_, _, _, e1⟩ := f _ _ _ _ e
  rw [h] at e1
  cases e1
  exact ⟨_, _, _, h'⟩
def spTakeL : Sp := fun vs H Q _ => ∃ (b : Addr) (many : Int), vs = [.ref b, .int many] ∧ Bag H b ∧ 0 < many ∧ many < 1073741824 ∧ ∀ H' v, Chg b H H' → Bag H' b → Fo b H H' → 0 ≤ v → v < many → Q (.int v) H'
def spTake : Sp := fun vs H Q _ => ∃ (b : Addr) (many : Int), vs = [.ref b, .int many] ∧ Bag H b ∧ 0 < many ∧ many < 1073741824 ∧ ∀ H' v, Chg b H H' → Bag H' b → 0 ≤ v → v < many → Q (.int v) H'
theorem ok_takeL {f : Addr} {fd : FuncData} {k : Nat} (F : Fun K "_law_take" "_law_take" sTake f fd) (mI : mg "int" = none) : FnOk P w K mg base CX0 (k + 1) f fd ["bag", "many"] spTakeL := by
  refine F.ok scTake (fun vs H Q E h => ?_) (fun cdv A outer s H vs Q E hr h => ?_)
  · obtain ⟨b, many, rfl, _⟩ := h
    rfl
  · obtain ⟨b, many, rfl, hB, hm0, hm1, q⟩ := h
    refine ⟨_, C8.pss_cut (ps_if (pt_cmpR op_eq (pe_ix ix_list (pv 0) pe_int (fun _ _ => rfl)) pe_int (nomark _))
        (pss_cons (ps_set (i := 2) scTake.nd rfl (.inl rfl) (pe_ix ix_list (pe_op op_cat (pe_slice sl_list (pe_ix ix_list (pv 0) pe_int (fun _ _ => rfl)) (po_some (pe_ix ix_list (pv 0) pe_int (fun _ _ => rfl))) po_none) (pe_lst (pa_cons pe_int pa_nil))) pe_int (fun _ _ => rfl)))
        (pss_cons (ps_augS (pv 0) pe_int pget_lst pe_int ip_add set_list)
        (C8.pss_cut (ps_if (pt_cmpR op_ge (pv 2) (pe_op op_pow pe_int pe_int) (nomark _)) (pss_one (ps_asg (pv 2) (pg_sub (pv 0) pe_int set_list))) pss_nil)
        (pss_cons (ps_set (i := 3) scTake.nd rfl (.inl rfl) (pe_op op_add (pe_op op_add (pe_op op_mul (pe_ix ix_list (pv 0) pe_int (fun _ _ => rfl)) pe_int) (pe_op op_mod (pe_callTy call_int1 (by rfl) mI (by decide +kernel) (pa_cons (pv 2) pa_nil)) pe_int)) (pe_op op_mul pe_int (pe_ix ix_list (pv 0) pe_int (fun _ _ => rfl)))))
        (pss_one (ps_asg (pe_op op_mod (pe_callTy call_int1 (by rfl) mI (by decide +kernel) (pa_cons (pv 3) pa_nil)) pe_int) (pg_sub (pv 0) pe_int set_list)))))))
        pss_nil)
      (pss_cons (ps_if (pt_cmpR op_gt (pe_ix ix_list (pv 0) pe_int (fun _ _ => rfl)) pe_int (nomark _))
        (pss_cons (ps_set (i := 4) scTake.nd rfl (.inl rfl) (pe_op op_mod (pe_callTy call_int1 (by rfl) mI (by decide +kernel) (pa_cons (pe_ix ix_list (pv 0) pe_int (fun _ _ => rfl)) pa_nil)) (pv 1)))
        (pss_cons (ps_asg (pe_op op_fdiv (pe_callTy call_int1 (by rfl) mI (by decide +kernel) (pa_cons (pe_ix ix_list (pv 0) pe_int (fun _ _ => rfl)) pa_nil)) (pv 1)) (pg_sub (pv 0) pe_int set_list))
        (pss_one (ps_ret (pv 4)))))
        pss_nil)
      (pss_cons (ps_set (i := 5) scTake.nd rfl (.inl rfl) (pe_op op_mod (pe_callTy call_int1 (by rfl) mI (by decide +kernel) (pa_cons (pe_op op_mul (pe_op op_add (pe_ix ix_list (pv 0) pe_int (fun _ _ => rfl)) pe_int) pe_int) pa_nil)) pe_int))
      (pss_cons (ps_set (i := 6) scTake.nd rfl (.inl rfl) (pe_op op_mod (pe_callTy call_int1 (by rfl) mI (by decide +kernel) (pa_cons (pe_op op_mul (pe_op op_mod (pe_callTy call_int1 (by rfl) mI (by decide +kernel) (pa_cons (pe_op op_mul (pv 5) (pv 5)) pa_nil)) pe_int) pe_int) pa_nil)) pe_int))
      (pss_one (ps_ret (pe_op op_mod (pe_callTy call_int1 (by rfl) mI (by decide +kernel) (pa_cons (pe_op op_fdiv (pv 6) pe_int) pa_nil)) (pv 1))))))), ?_⟩
    obtain ⟨n, m, k, l, cs, hb, hl, hne, h0, h1, h2, h3, hcs⟩ := hB
    refine ⟨fun σ' H' => ∃ y2 y3, σ' = [some (.ref b), some (.int many), y2, y3, none, none, none] ∧ Chg b H H' ∧ Bag H' b ∧ Fo b H H', ?_, fun σ' H' hM => ?_⟩
    · refine ⟨.ref b, rfl, b, _, 0, .int n, rfl, rfl, .inl (.inl hb), rfl, rfl, _, rfl, ite2 (fun e => ?_) (fun e => ?_)⟩
      · obtain ⟨c, hc0, hc⟩ := head_int hcs (some k) none
        refine ⟨.ref b, rfl, b, _, 3, .ref l, rfl, rfl, .inl (.inl hb), rfl, .ref b, rfl, b, _, 2, .int k, rfl, rfl, .inl (.inl hb), rfl, k, rfl, l, _, rfl, .inl (.inl hl), fun p np => ⟨by show 1 ≤ sizeLine; decide, fun o no => ?_⟩⟩
        refine ⟨p, o, _, _, rfl, rfl, new_ne upd_same no, upd_same, ?_, fun r nr => ?_⟩
        · have := cutV_length (cs.map V.int) (some k) none
          rw [List.length_map] at this
          rw [sizeLine_eq]
          show _ + 1 ≤ _
          omega
        · refine ⟨r, _, 0, .int c, rfl, rfl, .inl (.inl upd_same), hc, ?_⟩
          generalize hH3 : upd (upd (upd H p _) o _) r _ = H3
          have c3 : Same H H3 := by rw [← hH3]; exact ((new_same np).trans (new_same no)).trans (new_same nr)
          have hb3 := c3 _ _ hb
          refine ⟨.ref b, rfl, b, _, 2, .int k, rfl, rfl, hb3, by decide, by decide, rfl, k, 1, rfl, rfl, b, _, 2, 2, rfl, rfl, hb3, rfl, ?_⟩
          refine ⟨fun σ' H' => σ' = [some (.ref b), some (.int many), some (.int c), none, none, none, none] ∧ Chg b H H' ∧ ∃ n', 0 ≤ n' ∧ H' b = some (.lst [.int n', .int m, .int (k + 1), .ref l]), ?_, fun σ' H' hM => ?_⟩
          · refine ⟨_, rfl, 10, 18, rfl, rfl, ⟨by decide, by decide, by decide⟩, c, _, rfl, rfl, _, rfl, ite2 (fun e2 => ?_) (fun e2 => ?_)⟩
            · exact ⟨_, rfl, .ref b, rfl, b, _, 0, 0, rfl, rfl, upd_same, rfl, rfl, ((Chg.same c3).trans Chg.set).trans Chg.set, c, hc0, upd_same⟩
            · exact ⟨rfl, (Chg.same c3).trans Chg.set, n, h0, upd_same⟩
          · obtain ⟨rfl, hC, n', hn', hb5⟩ := hM
            refine ⟨.ref b, rfl, b, _, 1, .int m, rfl, rfl, .inl (.inl hb5), rfl, m, 48271, rfl, rfl, .inl ⟨by omega, by omega⟩, _, rfl, .inl ⟨c, rfl, c, 2147483647, rfl, rfl, (by show (0 : Int) < 2147483647; decide), _, _, rfl, rfl, .ref b, rfl, b, _, 2, .int (k + 1), rfl, rfl, .inl (.inl hb5), rfl, 7919, k + 1, rfl, rfl, .inl ⟨by decide, by decide⟩, _, _, rfl, rfl, ?_⟩⟩
            refine ⟨_, rfl, .inl ⟨_, rfl, _, 2147483647, rfl, rfl, (by show (0 : Int) < 2147483647; decide), .ref b, rfl, b, _, 1, 1, rfl, rfl, hb5, rfl, ?_⟩⟩
            refine ⟨_, _, rfl, hC.trans Chg.set, ⟨n', _, k + 1, l, cs, upd_same, ?_, hne, hn', Int.emod_nonneg _ (by decide), Int.emod_lt_of_pos _ (by decide), h3, hcs⟩, fo hb upd_same⟩
            rw [upd_ne hne]
            exact hC _ _ hne hl
      · exact ⟨none, none, rfl, Chg.refl, ⟨n, m, k, l, cs, hb, hl, hne, h0, h1, h2, h3, hcs⟩, fo hb hb⟩
    · clear hb hl hne h0 h1 h2 h3 hcs
      obtain ⟨y2, y3, rfl, hC, ⟨n, m, k, l, cs, hb, hl, hne, h0, h1, h2, h3, hcs⟩, hF⟩ := hM
      refine ⟨.ref b, rfl, b, _, 0, .int n, rfl, rfl, .inl (.inl hb), rfl, n, 0, rfl, rfl, _, rfl, ite2 (fun e => ?_) (fun e => ?_)⟩
      · refine ⟨.ref b, rfl, b, _, 0, .int n, rfl, rfl, .inl (.inl hb), rfl, .inl ⟨n, rfl, _, rfl, n, many, rfl, rfl, hm0, ?_⟩⟩
        refine ⟨.ref b, rfl, b, _, 0, .int n, rfl, rfl, .inl (.inl hb), rfl, .inl ⟨n, rfl, _, rfl, n, many, rfl, rfl, ⟨hm0, hm1⟩, .ref b, rfl, b, _, 0, 0, rfl, rfl, hb, rfl, _, rfl, ?_⟩⟩
        refine q _ _ (hC.trans Chg.set) ⟨n / many, m, k, l, cs, upd_same, ?_, hne, Int.ediv_nonneg h0 (by omega), h1, h2, h3, hcs⟩ (hF.then hb upd_same) (Int.emod_nonneg _ (by omega)) (Int.emod_lt_of_pos _ hm0)
        rw [upd_ne hne]
        exact hl
      · have hB' : Bag H' b := ⟨n, m, k, l, cs, hb, hl, hne, h0, h1, h2, h3, hcs⟩
        refine ⟨.ref b, rfl, b, _, 1, .int m, rfl, rfl, .inl (.inl hb), rfl, m, 1, rfl, rfl, m + 1, 39373, rfl, rfl, .inl ⟨by omega, by omega⟩, .inl ⟨_, rfl, _, 1000000007, rfl, rfl, (by show (0 : Int) < 1000000007; decide), ?_⟩⟩
        have b0 := Int.emod_nonneg ((m + 1) * 39373) (show (1000000007 : Int) ≠ 0 by decide)
        have b1 := Int.emod_lt_of_pos ((m + 1) * 39373) (show (0 : Int) < 1000000007 by decide)
        refine ⟨_, rfl, _, rfl, (m + 1) * 39373 % 1000000007, (m + 1) * 39373 % 1000000007, rfl, rfl, .inl ⟨by omega, by omega⟩, ?_⟩
        generalize (m + 1) * 39373 % 1000000007 = begn at b0 b1
        have d0 := Int.emod_nonneg (begn * begn) (show (998244353 : Int) ≠ 0 by decide)
        have d1 := Int.emod_lt_of_pos (begn * begn) (show (0 : Int) < 998244353 by decide)
        refine .inl ⟨_, rfl, _, 998244353, rfl, rfl, (by show (0 : Int) < 998244353; decide), _, 30011, rfl, rfl, .inl ⟨by omega, by omega⟩, .inl ⟨_, rfl, _, 998244353, rfl, rfl, (by show (0 : Int) < 998244353; decide), ?_⟩⟩
        refine ⟨_, rfl, _, 7, rfl, rfl, ⟨by decide, by decide⟩, .inl ⟨_, rfl, _, rfl, _, many, rfl, rfl, hm0, ?_⟩⟩
        exact q _ _ hC hB' hF (Int.emod_nonneg _ (by omega)) (Int.emod_lt_of_pos _ hm0)
theorem ok_take {f : Addr} {fd : FuncData} {k : Nat} (F : Fun K "_law_take" "_law_take" sTake f fd) (mI : mg "int" = none) : FnOk P w K mg base CX0 (k + 1) f fd ["bag", "many"] spTake :=
  (ok_takeL F mI).imp fun vs H Q E ⟨b, many, e, hB, h0, h1, q⟩ => ⟨b, many, e, hB, h0, h1, fun H' v c B _ v0 v1 => q H' v c B v0 v1⟩
/-- one of some things -/
def spOne : Sp := fun vs H Q _ => ∃ (b t : Addr) (xs : List V), vs = [.ref b, .ref t] ∧ Bag H b ∧ H t = some (.lst xs) ∧ t ≠ b ∧ xs ≠ [] ∧ xs.length ≤ 1000 ∧ ∀ H' x, Chg b H H' → Bag H' b → x ∈ xs → Q x H'
theorem ok_one {f fT : Addr} {fd fdT : FuncData} {k : Nat} (F : Fun K "_law_one" "_law_one" sOne f fd) (FT : Fun K "_law_take" "_law_take" sTake fT fdT) (bT : Binds K fdT ["bag", "many"] []) (gT : mg "_law_take" = some (.ref fT))
    (mI : mg "int" = none) (mL : mg "len" = none) : FnOk P w K mg base CX0 (k + 2) f fd ["bag", "things"] spOne := by
  have GT : FnOk P w K mg base CX0 (k + 1) fT fdT ["bag", "many"] spTake := ok_take FT mI
  refine F.ok scOne (fun vs H Q E h => ?_) (fun cdv A outer s H vs Q E hr h => ?_)
  · obtain ⟨b, t, xs, rfl, _⟩ := h
    rfl
  · obtain ⟨b, t, xs, rfl, hB, ht, hne, hx, hl, q⟩ := h
    refine ⟨_, pss_one (ps_ret (pe_ix ix_list (pv 1) (pe_call GT hr (by rfl) gT FT.kp bT .nil pass0 (pa_cons (pv 0) (pa_cons (pe_callB call_len_seq (by rfl) mL PySem.boot_len (pa_cons (pv 1) pa_nil)) pa_nil))) (fun _ _ => rfl))), ?_⟩
    have pos : 0 < xs.length := List.length_pos_iff.mpr hx
    refine ⟨.ref t, rfl, .ref b, rfl, .ref t, rfl, t, xs, rfl, .inl (.inl (.inl ht)), b, _, rfl, hB, by omega, by omega, fun H' v hC hB' v0 v1 => ?_⟩
    have hi : v.toNat < xs.length := by omega
    refine ⟨t, xs, v, xs[v.toNat], rfl, rfl, .inl (.inl (hC _ _ hne ht)), ?_, q H' _ hC hB' (List.getElem_mem hi)⟩
    have e : ((v.toNat : Nat) : Int) = v := by omega
    have z := atI_nat (j := v.toNat) (List.getElem?_eq_getElem hi)
    rw [e] at z
    exact z
end
end V0
/-! Values that are drawn: what they print, what they are, apart from the bag at b. -/
namespace V0
open PySem PySem.Spec PyProof.Rows L2
section
variable {X : Cx} {e : Expr}
/-- a test, what holds behind it said once -/
theorem pt_mid {t : TT} (h : PT X e t) : PT X e (fun σ H Q => ∃ M : Bool → Hp → Prop, t σ H M ∧ ∀ c H', M c H' → Q c H') := by
  constructor
  intro pins s σ H Q I ⟨M, hm, k⟩
  exact thn (h.run pins s σ H M I hm) fun c s1 ⟨H1, I1, q⟩ => ⟨H1, I1, k c H1 q⟩
theorem pe_mid {t : TE} (h : PE X e t) : PE X e (fun σ H Q => ∃ M : V → Hp → Prop, t σ H M ∧ ∀ x H', M x H' → Q x H') := by
  constructor
  intro pins s σ H Q I ⟨M, hm, k⟩
  exact thn (h.run pins s σ H M I hm) fun c s1 ⟨x, H1, I1, r, q⟩ => ⟨x, H1, I1, r, k x H1 q⟩
end
/-- v prints, at depth d at most, at cost B at most, and b is not met -/
def Pv (b : Addr) (H : Hp) (d B : Nat) (v : V) : Prop := ∃ as t e, Shw H [v] d as [t] e ∧ e ≤ B ∧ b ∉ as
section
variable {b : Addr} {H H' : Hp} {d d' B B' : Nat} {v : V} {xs : List V}
theorem Pv.mono (p : Pv b H d B v) (hd : d ≤ d') (hB : B ≤ B') : Pv b H d' B' v := by
  obtain ⟨as, t, e, q, l, n⟩ := p
  exact ⟨as, t, e, q.up hd, by omega, n⟩
theorem Pv.chg (p : Pv b H d B v) (k : Chg b H H') : Pv b H' d B v := by
  obtain ⟨as, t, e, q, l, n⟩ := p
  exact ⟨as, t, e, q.keep fun a ha o h => k a o (fun z => n (z ▸ ha)) h, l, n⟩
theorem Pv.all : ∀ {vs : List V}, (∀ v ∈ vs, Pv b H d B v) → ∃ as ts e, Shw H vs d as ts e ∧ e ≤ B * vs.length ∧ b ∉ as
  | [], _ => ⟨_, _, _, .nil, Nat.zero_le _, by simp⟩
  | v :: vs, h => by
    obtain ⟨as, t, e, q, l, n⟩ := h v List.mem_cons_self
    obtain ⟨bs, us, f, r, m, o⟩ := Pv.all (vs := vs) fun w hw => h w (List.mem_cons_of_mem _ hw)
    refine ⟨_, _, _, q.cons1 r, ?_, ?_⟩
    · rw [List.length_cons, Nat.mul_succ]
      omega
    · intro z
      rcases List.mem_append.mp z with z | z
      · exact n z
      · exact o z
theorem Pv.each (h : ∃ as ts e, Shw H xs d as ts e ∧ e ≤ B ∧ b ∉ as) : ∀ v ∈ xs, ∃ e, Pv b H d e v ∧ e ≤ B := by
  obtain ⟨as, ts, e, q, l, n⟩ := h
  induction q with
  | nil => intro v hv; cases hv
  | non r ih =>
    intro v hv
    rcases List.mem_cons.mp hv with z | z
    · subst z; exact ⟨_, ⟨_, _, _, Shw.non Shw.nil, Nat.le_refl _, by simp⟩, by omega⟩
    · exact ih (by omega) n v z
  | bl c r ih =>
    intro v hv
    rcases List.mem_cons.mp hv with z | z
    · subst z; exact ⟨_, ⟨_, _, _, Shw.bl c Shw.nil, Nat.le_refl _, by simp⟩, by omega⟩
    · exact ih (by omega) n v z
  | int i hi r ih =>
    intro v hv
    rcases List.mem_cons.mp hv with z | z
    · subst z; exact ⟨_, ⟨_, _, _, Shw.int i hi Shw.nil, Nat.le_refl _, by simp⟩, by clear hi; omega⟩
    · exact ih (by clear hi; omega) n v z
  | str x hx hc r ih =>
    intro v hv
    rcases List.mem_cons.mp hv with z | z
    · subst z; exact ⟨_, ⟨_, _, _, Shw.str x hx hc Shw.nil, Nat.le_refl _, by simp⟩, by omega⟩
    · exact ih (by omega) n v z
  | lst h q hn r i1 i2 =>
    intro v hv
    have n1 := fun z => n (List.mem_append_left _ z)
    have n2 := fun z => n (List.mem_append_right _ z)
    rcases List.mem_cons.mp hv with z | z
    · subst z; exact ⟨_, ⟨_, _, _, Shw.lst h q hn Shw.nil, Nat.le_refl _, by simpa using n1⟩, by omega⟩
    · exact i2 (by omega) n2 v z
  | tup h q hn r i1 i2 =>
    intro v hv
    have n1 := fun z => n (List.mem_append_left _ z)
    have n2 := fun z => n (List.mem_append_right _ z)
    rcases List.mem_cons.mp hv with z | z
    · subst z; exact ⟨_, ⟨_, _, _, Shw.tup h q hn Shw.nil, Nat.le_refl _, by simpa using n1⟩, by omega⟩
    · exact i2 (by omega) n2 v z
  | dic ks h hk q hn r i1 i2 =>
    intro v hv
    have n1 := fun z => n (List.mem_append_left _ z)
    have n2 := fun z => n (List.mem_append_right _ z)
    rcases List.mem_cons.mp hv with z | z
    · subst z; exact ⟨_, ⟨_, _, _, Shw.dic ks h hk q hn Shw.nil, Nat.le_refl _, by simpa using n1⟩, by omega⟩
    · exact i2 (by omega) n2 v z
/-- the items of a tuple that prints -/
theorem Pv.items {a : Addr} (p : Pv b H d B (.ref a)) (h : H a = some (.tup xs)) : a ≠ b ∧ ∀ v ∈ xs, Pv b H d B v := by
  obtain ⟨as, t, e, q, l, n⟩ := p
  cases q with
  | lst h' => rw [h] at h'; cases h'
  | dic ks h' => rw [h] at h'; cases h'
  | @tup _ d0 _ _ _ _ ys bs us f h' q' hn r =>
    cases r
    rw [h] at h'
    cases h'
    refine ⟨fun z => n (by rw [z]; simp), fun v hv => ?_⟩
    obtain ⟨e', p, l'⟩ := Pv.each (b := b) (B := f) ⟨_, _, _, q', Nat.le_refl _, fun z => n (by simp [z])⟩ v hv
    exact p.mono (Nat.le_succ _) (by omega)
theorem ne_new {p : Addr} {o : HO} (hb : H b = some o) (hp : H p = none) : b ≠ p := ne_of_none hb hp
/-- a new tuple -/
theorem Pv.tup_new {p : Addr} {o : HO} (hb : H b = some o) (hp : H p = none) (k : ∀ v ∈ xs, Pv b H d B v) : Pv b (upd H p (.tup xs)) (d + 1) (10 + B * xs.length) (.ref p) := by
  obtain ⟨as, ts, e, q, l, n⟩ := Pv.all k
  refine ⟨_, _, _, .tup upd_same (q.keep fun a _ o h => new_ne h hp) (q.fresh hp) .nil, by omega, ?_⟩
  simp only [List.append_nil, List.mem_cons, not_or]
  exact ⟨ne_new hb hp, n⟩
/-- a new list -/
theorem Pv.lst_new {p : Addr} {o : HO} (hb : H b = some o) (hp : H p = none) (k : ∀ v ∈ xs, Pv b H d B v) : Pv b (upd H p (.lst xs)) (d + 1) (10 + B * xs.length) (.ref p) := by
  obtain ⟨as, ts, e, q, l, n⟩ := Pv.all k
  refine ⟨_, _, _, .lst upd_same (q.keep fun a _ o h => new_ne h hp) (q.fresh hp) .nil, by omega, ?_⟩
  simp only [List.append_nil, List.mem_cons, not_or]
  exact ⟨ne_new hb hp, n⟩
end
/-- a tuple at p of items zs that print -/
structure Tp (b : Addr) (H : Hp) (d B : Nat) (p : Addr) (zs : List V) : Prop where
  at_ : H p = some (.tup zs)
  its : ∀ v ∈ zs, Pv b H d B v
  all : Pv b H (d + 1) (10 + B * zs.length) (.ref p)
  ne : p ≠ b
theorem Tp.chg {b : Addr} {H H' : Hp} {d B : Nat} {p : Addr} {zs : List V} (t : Tp b H d B p zs) (k : Chg b H H') : Tp b H' d B p zs :=
  ⟨k _ _ t.ne t.at_, fun v hv => (t.its v hv).chg k, t.all.chg k, t.ne⟩
theorem Tp.new {b : Addr} {H : Hp} {o : HO} {d B : Nat} {p : Addr} {zs : List V} (hb : H b = some o) (hp : H p = none) (k : ∀ v ∈ zs, Pv b H d B v) : Tp b (upd H p (.tup zs)) d B p zs :=
  ⟨upd_same, fun v hv => (k v hv).chg (Chg.new hp), Pv.tup_new hb hp k, (ne_new hb hp).symm⟩
section
variable {X : Cx}
theorem cut_all {xs : List V} {lo hi : Option Int} (h : HT.sIx xs.length 0 lo = 0 ∧ HT.sIx xs.length xs.length hi = xs.length) : cutV xs lo hi = xs := by
  unfold cutV
  rw [h.1, h.2]
  simp
/-- t[lo:hi] of such a tuple -/
theorem sl_tp (b : Addr) (d B : Nat) : SlR X (fun x lo hi H Q => ∃ a xs o, x = .ref a ∧ H b = some o ∧ Tp b H d B a xs ∧ ∀ H' p, Same H H' → Tp b H' d B p (cutV xs lo hi) → Q (.ref p) H') := by
  intro pins s σ H x v vl vu lo hi sl Q I rx hs pl pu h
  obtain ⟨a, xs, o, rfl, hb, t, q⟩ := h
  refine sl_tupA pins s σ H _ v vl vu lo hi sl Q I rx hs pl pu ⟨a, xs, rfl, .inl (.inl t.at_), fun hw => ?_, fun _ p hp => ?_⟩
  · exact q H a (Same.refl H) (by rw [cut_all hw]; exact t)
  · exact q _ p (new_same hp) (.new hb hp fun v hv => t.its v (List.mem_of_mem_drop (List.mem_of_mem_take hv)))
/-- t + u of such tuples -/
theorem op_cattp (b : Addr) (d B : Nat) : OpR X (binaryOp .Add) (fun x y H Q => ∃ a c xs ys o, x = .ref a ∧ y = .ref c ∧ H b = some o ∧ Tp b H d B a xs ∧ Tp b H d B c ys ∧ xs.length + ys.length ≤ 1000 ∧ ∀ H' p, Same H H' → Tp b H' d B p (xs ++ ys) → Q (.ref p) H') := by
  intro pins s σ H x y v u Q I rx ry h
  obtain ⟨a, c, xs, ys, o, rfl, rfl, hb, t1, t2, hl, q⟩ := h
  refine op_catA pins s σ H _ _ v u Q I rx ry ⟨a, c, xs, ys, rfl, rfl, .inl (.inl t1.at_), .inl (.inl t2.at_), by rw [sizeLine_eq]; omega, fun hx => ?_, fun _ hy => ?_, fun _ _ p hp => ?_⟩
  · subst hx
    exact q H c (Same.refl H) t2
  · subst hy
    exact q H a (Same.refl H) (by rw [List.append_nil]; exact t1)
  · refine q _ p (new_same hp) (.new hb hp fun v hv => ?_)
    rcases List.mem_append.mp hv with z | z
    · exact t1.its v z
    · exact t2.its v z
end
/-- what is drawn from a menu -/
inductive Low (b : Addr) (H : Hp) : V → Prop
  | non : Low b H .non
  | bl (c : Bool) : Low b H (.bl c)
  | int (i : Int) (h : i.natAbs < 10 ^ 50) : Low b H (.int i)
  | str (x : PySem.Str) (h : x.length ≤ 50) (hc : ∀ k ∈ x.cps.toList, k < 16 ^ 8) : Low b H (.str x)
  | lst {a : Addr} {xs : List V} (n : a ≠ b) (h : H a = some (.lst xs)) : Low b H (.ref a)
  | dic {a : Addr} {kvs : List (Key × V)} (n : a ≠ b) (h : H a = some (.dK kvs)) : Low b H (.ref a)
  | tup {a : Addr} {xs : List V} (n : a ≠ b) (h : H a = some (.tup xs)) (hl : xs.length ≤ 4) (k : ∀ v ∈ xs, Low b H v) : Low b H (.ref a)
theorem Low.chg {b : Addr} {H H' : Hp} {v : V} (l : Low b H v) (k : Chg b H H') : Low b H' v := by
  induction l with
  | non => exact .non
  | bl c => exact .bl c
  | int i h => exact .int i h
  | str x h hc => exact .str x h hc
  | lst n h => exact .lst n (k _ _ n h)
  | dic n h => exact .dic n (k _ _ n h)
  | tup n h hl _ ih => exact .tup n (k _ _ n h) hl ih
def isI : V → Bool | .int _ => true | _ => false
def isB : V → Bool | .bl _ => true | _ => false
def isS : V → Bool | .str _ => true | _ => false
theorem kits (K : PySem.W.Frag) : (∀ T ∈ ["NoneType", "bool", "int", "str", "list", "dict", "tuple"], PySem.W.kitOne K (.type T) (.type "int") = some (decide (T = "int" ∨ T = "bool")) ∧ PySem.W.kitOne K (.type T) (.type "bool") = some (decide (T = "bool")) ∧
    PySem.W.kitOne K (.type T) (.type "str") = some (decide (T = "str")) ∧ PySem.W.kitOne K (.type T) (.type "tuple") = some (decide (T = "tuple"))) := by
  intro T hT
  simp only [List.mem_cons, List.mem_nil_iff, or_false, List.not_mem_nil] at hT
  rcases hT with rfl | rfl | rfl | rfl | rfl | rfl | rfl <;> exact ⟨by kernel_rfl, by kernel_rfl, by kernel_rfl, by kernel_rfl⟩
end V0
namespace V0
open PySem PySem.Spec PyProof.Rows L2
abbrev sBag : Stmt := topS 14
abbrev sInteger : Stmt := topS 17
abbrev sOdd : Stmt := topS 18
theorem scBag : FnScope ["script", "cell"] ["script"] (defScope sBag) := ⟨rfl, rfl, rfl, by decide +kernel, rfl, by decide +kernel, by decide +kernel⟩
theorem scInteger : FnScope ["thing"] ["thing"] (defScope sInteger) := ⟨rfl, rfl, rfl, by decide +kernel, rfl, by decide +kernel, by decide +kernel⟩
theorem scOdd : FnScope ["bag", "menu"] ["bag"] (defScope sOdd) := ⟨rfl, rfl, rfl, by decide +kernel, rfl, by decide +kernel, by decide +kernel⟩
/-- of what type a drawn value is -/
theorem Low.ty {b : Addr} {H : Hp} {v : V} (K : PySem.W.Frag) (l : Low b H v) : ∃ T, TyX K H v (.type T) ∧ PySem.W.kitOne K (.type T) (.type "int") = some (isI v || isB v) ∧ PySem.W.kitOne K (.type T) (.type "bool") = some (isB v) ∧
    PySem.W.kitOne K (.type T) (.type "str") = some (isS v) ∧ ∃ c, PySem.W.kitOne K (.type T) (.type "tuple") = some c ∧ (c = true → ∃ a xs, v = .ref a ∧ a ≠ b ∧ H a = some (.tup xs) ∧ xs.length ≤ 4 ∧ ∀ v ∈ xs, Low b H v) := by
  have k := kits K
  cases l with
  | non => obtain ⟨h1, h2, h3, h4⟩ := k "NoneType" (by decide); exact ⟨_, .base .non, h1, h2, h3, _, h4, fun e => absurd e (by decide)⟩
  | bl c => obtain ⟨h1, h2, h3, h4⟩ := k "bool" (by decide); exact ⟨_, .base (.bl c), h1, h2, h3, _, h4, fun e => absurd e (by decide)⟩
  | int i h => obtain ⟨h1, h2, h3, h4⟩ := k "int" (by decide); exact ⟨_, .base (.int i), h1, h2, h3, _, h4, fun e => absurd e (by decide)⟩
  | str x h hc => obtain ⟨h1, h2, h3, h4⟩ := k "str" (by decide); exact ⟨_, .base (.str x), h1, h2, h3, _, h4, fun e => absurd e (by decide)⟩
  | lst n h => obtain ⟨h1, h2, h3, h4⟩ := k "list" (by decide); exact ⟨_, .base (.lst h), h1, h2, h3, _, h4, fun e => absurd e (by decide)⟩
  | dic n h => obtain ⟨h1, h2, h3, h4⟩ := k "dict" (by decide); exact ⟨_, .base (.dK h), h1, h2, h3, _, h4, fun e => absurd e (by decide)⟩
  | tup n h hl hk => obtain ⟨h1, h2, h3, h4⟩ := k "tuple" (by decide); exact ⟨_, .base (.tup h), h1, h2, h3, _, h4, fun _ => ⟨_, _, rfl, n, h, hl, hk⟩⟩
section
variable {P : Program} {w : World} {K : PySem.W.Frag} {mg : PySem.Str → Option Value} {base : Heap}
def spInteger : Sp := fun vs H Q _ => ∃ (b : Addr) (v : V), vs = [v] ∧ Low b H v ∧ Q (.bl (isI v)) H
theorem ok_integer {f : Addr} {fd : FuncData} {k : Nat} (F : Fun K "_law_integer" "_law_integer" sInteger f fd) (mS : mg "isinstance" = none) (mI : mg "int" = none) (mB : mg "bool" = none) : FnOk P w K mg base CX0 (k + 1) f fd ["thing"] spInteger := by
  refine F.ok scInteger (fun vs H Q E h => ?_) (fun cdv A outer s H vs Q E hr h => ?_)
  · obtain ⟨b, v, rfl, _⟩ := h
    rfl
  · obtain ⟨b, v, rfl, l, q⟩ := h
    refine ⟨_, pss_one (ps_ret (pe_and (pe_callB call_isi (by rfl) mS (by decide +kernel) (pa_cons (pv 0) (pa_cons (pe_bltn (v := .ty "int") (u := .type "int") (by rfl) mI (by decide +kernel) rfl) pa_nil)))
      (pe_one (pe_not (pe_callB call_isi (by rfl) mS (by decide +kernel) (pa_cons (pv 0) (pa_cons (pe_bltn (v := .ty "bool") (u := .type "bool") (by rfl) mB (by decide +kernel) rfl) pa_nil))))))), ?_⟩
    obtain ⟨T, ty, t1, t2, _⟩ := l.ty K
    refine ⟨v, rfl, v, .ty "int", _, _, _, rfl, .ty "int", ty, t1, _, rfl, ite2 (fun e => ?_) (fun e => ?_)⟩
    · refine ⟨v, rfl, v, .ty "bool", _, _, _, rfl, .ty "bool", ty, t2, _, rfl, ?_⟩
      cases v <;> first | exact q | (simp [isI, isB] at e)
    · cases v <;> first | exact q | (simp [isI, isB] at e)
def spBag (K : PySem.W.Frag) : Sp := fun vs H Q _ => ∃ (a : Addr) (ns : List Int), vs = [.ref a] ∧ SqL K H a (ns.map V.int) ∧ ns.length ≤ 63 ∧ ∀ H' b, Same H H' → H b = none → Bag H' b → Q (.ref b) H'
theorem ok_bag {f : Addr} {fd : FuncData} {k : Nat} (F : Fun K "_law_bag" "_law_bag" sBag f fd) (mA : mg "abs" = none) : FnOk P w K mg base CX0 (k + 1) f fd ["script"] (spBag K) := by
  refine F.ok scBag (fun vs H Q E h => ?_) (fun cdv A outer s H vs Q E hr h => ?_)
  · obtain ⟨a, ns, rfl, _⟩ := h
    rfl
  · obtain ⟨a, ns, rfl, hS, hl, q⟩ := h
    refine ⟨_, pss_one (ps_ret (pe_lst (pa_cons pe_int (pa_cons pe_int (pa_cons pe_int (pa_cons (pe_lc (own := [("cell", 1)]) (g := gName 1) rfl scBag.nd (pi_list (pe_slice sl_list (pv 0) po_none (po_some pe_int))) (blkOk_by (N := ["script", "cell"]) (sc := defScope sBag) (by decide +kernel))
      (fun _ _ _ _ _ => pg_name (i := 1) scBag.nd rfl (Or.inl rfl)) (fun _ _ _ _ _ => pts_nil) (fun _ _ _ _ _ => pe_callB call_abs (by rfl) mA (by decide +kernel) (pa_cons (pv 1) pa_nil))) pa_nil)))))), ?_⟩
    refine ⟨.ref a, rfl, 63, rfl, a, _, rfl, hS, fun p np => ⟨p, rfl, ⟨_, .inl (.inl upd_same)⟩, fun D nD => ?_⟩⟩
    generalize hzs : cutV (ns.map V.int) none (some 63) = zs at nD ⊢
    have hz : zs.length ≤ 63 := by
      rw [← hzs]
      refine Nat.le_trans (cutV_length _ _ _) ?_
      rw [List.length_map]
      exact hl
    have hint : ∀ v ∈ zs, ∃ c, v = V.int c := by
      intro v hv
      rw [← hzs] at hv
      obtain ⟨c, _, e⟩ := List.mem_map.mp (List.mem_of_mem_drop (List.mem_of_mem_take hv))
      exact ⟨c, e.symm⟩
    have pD : p ≠ D := ne_of_none upd_same nD
    have nDH : H D = none := by
      cases z : H D with
      | none => rfl
      | some o =>
        have := new_ne (u := .lst zs) z np
        rw [nD] at this
        cases this
    refine lc_list (K := K) (a := p) (xs := zs) (fun i Hc => ∃ cs : List Int, Hc D = some (.lst (cs.map V.int)) ∧ cs.length = i ∧ (∀ c ∈ cs, 0 ≤ c) ∧ Same H Hc ∧ Hc p = some (.lst zs))
      ⟨[], upd_same, rfl, fun c hc => (by cases hc), (new_same np).trans (new_same nD), new_ne upd_same nD⟩ (fun i Hc _ ⟨cs, _, _, _, _, hp⟩ => .inl (.inl hp)) (fun i x Hc hx ⟨cs, h1, h2, h3, h4, h5⟩ => ?_) (fun Hc ⟨cs, h1, h2, h3, h4, h5⟩ => ?_)
    · obtain ⟨c, rfl⟩ := hint x (List.mem_of_getElem? hx)
      refine ⟨rfl, _, rfl, c, rfl, cs.map V.int, h1, ?_, cs ++ [if c < 0 then -c else c], ?_, ?_, fun z hz => ?_, ?_, ?_⟩
      · have := (List.getElem?_eq_some_iff.mp hx).1
        rw [List.length_map, sizeLine_eq]
        omega
      · rw [upd_same, List.map_append]
        rfl
      · rw [List.length_append, h2]
        rfl
      · rcases List.mem_append.mp hz with e | e
        · exact h3 z e
        · rw [List.mem_singleton] at e
          subst e
          split <;> omega
      · intro y o e
        have : y ≠ D := ne_of_none e nDH
        rw [upd_ne this]
        exact h4 y o e
      · rw [upd_ne pD]
        exact h5
    · refine ⟨by show 4 ≤ sizeLine; decide, fun b nb => q _ b (h4.trans (new_same nb)) ?_ ⟨0, 1234567891, 0, D, cs, upd_same, ?_, ne_of_none h1 nb, by decide, by decide, by decide, by omega, h3⟩⟩
      · cases z : H b with
        | none => rfl
        | some o =>
          have := h4 b o z
          rw [nb] at this
          cases this
      · exact new_ne h1 nb
end
end V0
namespace V0
open PySem PySem.Spec PyProof.Rows L2
theorem all_cons {α : Type} {F : α → Prop} {x : α} {xs : List α} (h : F x) (t : ∀ v ∈ xs, F v) : ∀ v ∈ x :: xs, F v := fun v hv => by
  rcases List.mem_cons.mp hv with e | e
  · exact e ▸ h
  · exact t v e
theorem Bag.same {b : Addr} {H H' : Hp} (B : Bag H b) (s : Same H H') : Bag H' b := by
  obtain ⟨n, m, k, l, cs, hb, hl, r⟩ := B
  exact ⟨n, m, k, l, cs, s _ _ hb, s _ _ hl, r⟩
section
variable {b p : Addr} {H : Hp} {o : HO} {d B : Nat} {xs : List V}
theorem pv_non : Pv b H 0 10 .non := ⟨_, _, _, .non .nil, by decide, by simp⟩
theorem pv_bl (c : Bool) : Pv b H 0 10 (.bl c) := ⟨_, _, _, .bl c .nil, by decide, by simp⟩
theorem pv_int {i : Int} (h : i.natAbs < 10 ^ 60) : Pv b H 0 70 (.int i) := ⟨_, _, _, .int i h .nil, by decide, by simp⟩
theorem pv_str {x : PySem.Str} (h : x.length ≤ 100) (hc : ∀ k ∈ x.cps.toList, k < 16 ^ 8) : Pv b H 0 1010 (.str x) := ⟨_, _, _, .str x h hc .nil, by decide, by simp⟩
theorem Gd.tup (hb : H b = some o) (hp : H p = none) (hl : xs.length ≤ 4) (lo : ∀ v ∈ xs, Low b H v) (k : ∀ v ∈ xs, Pv b H d B v) {T : Nat} (hT : 10 + B * xs.length ≤ T) : Low b (upd H p (.tup xs)) (.ref p) ∧ Pv b (upd H p (.tup xs)) (d + 1) T (.ref p) :=
  ⟨.tup (ne_new hb hp).symm upd_same hl fun v hv => (lo v hv).chg (Chg.new hp), (Pv.tup_new hb hp k).mono (Nat.le_refl _) hT⟩
theorem Gd.lst (hb : H b = some o) (hp : H p = none) (k : ∀ v ∈ xs, Pv b H d B v) {T : Nat} (hT : 10 + B * xs.length ≤ T) : Low b (upd H p (.lst xs)) (.ref p) ∧ Pv b (upd H p (.lst xs)) (d + 1) T (.ref p) :=
  ⟨.lst (ne_new hb hp).symm upd_same, (Pv.lst_new hb hp k).mono (Nat.le_refl _) hT⟩
theorem Gd.dic0 (hb : H b = some o) (hp : H p = none) : Low b (upd H p (.dK [])) (.ref p) ∧ Pv b (upd H p (.dK [])) 1 10 (.ref p) :=
  ⟨.dic (ne_new hb hp).symm upd_same, ⟨_, _, _, .dic (d := 0) [] upd_same (fun p hp => by cases hp) .nil (by simp) .nil, by decide, by simpa using ne_new hb hp⟩⟩
theorem Gd.dic1 (hb : H b = some o) (hp : H p = none) : Low b (upd H p (.dK [(Sum.inr "a", .int 1)])) (.ref p) ∧ Pv b (upd H p (.dK [(Sum.inr "a", .int 1)])) 1 1090 (.ref p) :=
  ⟨.dic (ne_new hb hp).symm upd_same, ⟨_, _, _, .dic (d := 0) [("a", .int 1)] upd_same (all_cons ⟨by decide +kernel, by decide +kernel⟩ fun p hp => by cases hp) (.int 1 (by decide +kernel) .nil) (by simp) .nil, by decide, by simpa using ne_new hb hp⟩⟩
end
section
variable {P : Program} {w : World} {K : PySem.W.Frag} {mg : PySem.Str → Option Value} {base : Heap}
def spOdd : Sp := fun vs H Q _ => ∃ b : Addr, vs = [.ref b] ∧ Bag H b ∧ ∀ H' v, Chg b H H' → Bag H' b → Low b H' v → Pv b H' 3 4100 v → Q v H'
theorem ok_odd {f fO fT : Addr} {fd fdO fdT : FuncData} {k : Nat} (F : Fun K "_law_odd" "_law_odd" sOdd f fd) (FO : Fun K "_law_one" "_law_one" sOne fO fdO) (bO : Binds K fdO ["bag", "things"] []) (gO : mg "_law_one" = some (.ref fO))
    (FT : Fun K "_law_take" "_law_take" sTake fT fdT) (bT : Binds K fdT ["bag", "many"] []) (gT : mg "_law_take" = some (.ref fT)) (mI : mg "int" = none) (mL : mg "len" = none) : FnOk P w K mg base CX0 (k + 3) f fd ["bag"] spOdd := by
  have GO : FnOk P w K mg base CX0 (k + 2) fO fdO ["bag", "things"] spOne := ok_one FO FT bT gT mI mL
  refine F.ok scOdd (fun vs H Q E h => ?_) (fun cdv A outer s H vs Q E hr h => ?_)
  · obtain ⟨b, rfl, _⟩ := h
    rfl
  · obtain ⟨b, rfl, hB, q⟩ := h
    refine ⟨_, pss_cons (ps_set (i := 1) scOdd.nd rfl (.inl rfl) (pe_lst (pa_cons pe_non (pa_cons pe_bl (pa_cons pe_bl (pa_cons pe_int (pa_cons pe_int (pa_cons (pe_un un_neg pe_int) (pa_cons (pe_op op_pow pe_int pe_int) (pa_cons pe_str (pa_cons pe_str (pa_cons pe_str (pa_cons pe_str (pa_cons (pe_tup pa_nil) (pa_cons (pe_lst pa_nil) (pa_cons pe_dnewK (pa_cons (pe_tup (pa_cons pe_int (pa_cons pe_int (pa_cons pe_int pa_nil)))) (pa_cons (pe_tup (pa_cons (pe_tup (pa_cons pe_int (pa_cons pe_int (pa_cons pe_int pa_nil)))) (pa_cons pe_non pa_nil))) pa_nil))))))))))))))))))
      (pss_one (ps_ret (pe_call GO hr (by rfl) gO FO.kp bO .nil pass0 (pa_cons (pv 0) (pa_cons (pe_op op_cat (pv 1) (pe_lst (pa_cons (pe_tup (pa_cons (pe_tup (pa_cons (pe_tup (pa_cons pe_int (pa_cons pe_int (pa_cons pe_int pa_nil)))) (pa_cons pe_non pa_nil))) pa_nil)) (pa_cons (pe_tup (pa_cons pe_str (pa_cons (pe_tup pa_nil) (pa_cons (pe_tup pa_nil) (pa_cons pe_bl pa_nil))))) (pa_cons (pe_disp (pps_cons pe_str pe_int pps_nil) (by rfl) (by rfl) (fun z => by cases z) (by decide)) (pa_cons (pe_lst (pa_cons (pe_tup (pa_cons pe_str pa_nil)) pa_nil)) (pa_cons pe_str (pa_cons pe_str pa_nil)))))))) pa_nil))))), ?_⟩
    obtain ⟨ob, hb⟩ : ∃ o, H b = some o := by obtain ⟨n, m, k, l, cs, hb, _⟩ := hB; exact ⟨_, hb⟩
    obtain ⟨H0, hC, q⟩ : ∃ H0 : Hp, Chg b H0 H ∧ ∀ H' v, Chg b H0 H' → Bag H' b → Low b H' v → Pv b H' 3 4100 v → Q v H' := ⟨H, Chg.refl, q⟩
    refine ⟨1, rfl, 10, 39, rfl, rfl, ⟨by decide, by decide, by decide⟩, ⟨(by show 0 ≤ sizeLine; decide), fun p1 n1 => ?_⟩⟩
    have b1 := new_ne (u := .tup []) hb n1
    have g1 : Low b (upd H p1 (.tup [])) (.ref p1) ∧ Pv b (upd H p1 (.tup [])) 1 10 (.ref p1) := Gd.tup hb n1 (d := 0) (B := 0) (by simp) (fun v hv => by cases hv) (fun v hv => by cases hv) (by simp)
    have s1 : Same H (upd H p1 (.tup [])) := new_same n1
    replace hB := hB.same s1
    replace hC := hC.trans (Chg.same s1)
    clear s1 n1
    generalize upd H p1 (.tup []) = H1 at *
    refine ⟨(by show 0 ≤ sizeLine; decide), fun p2 n2 => ?_⟩
    have b2 := new_ne (u := .lst []) b1 n2
    have g2 : Low b (upd H1 p2 (.lst [])) (.ref p2) ∧ Pv b (upd H1 p2 (.lst [])) 1 10 (.ref p2) := Gd.lst b1 n2 (d := 0) (B := 0) (fun v hv => by cases hv) (by simp)
    have s2 : Same H1 (upd H1 p2 (.lst [])) := new_same n2
    replace hB := hB.same s2
    replace g1 := And.intro (g1.1.chg (Chg.same s2)) (g1.2.chg (Chg.same s2))
    replace hC := hC.trans (Chg.same s2)
    clear s2 n2
    generalize upd H1 p2 (.lst []) = H2 at *
    intro p3 n3
    have b3 := new_ne (u := .dK []) b2 n3
    have g3 : Low b (upd H2 p3 (.dK [])) (.ref p3) ∧ Pv b (upd H2 p3 (.dK [])) 1 10 (.ref p3) := Gd.dic0 b2 n3
    have s3 : Same H2 (upd H2 p3 (.dK [])) := new_same n3
    replace hB := hB.same s3
    replace g1 := And.intro (g1.1.chg (Chg.same s3)) (g1.2.chg (Chg.same s3))
    replace g2 := And.intro (g2.1.chg (Chg.same s3)) (g2.2.chg (Chg.same s3))
    replace hC := hC.trans (Chg.same s3)
    clear s3 n3
    generalize upd H2 p3 (.dK []) = H3 at *
    refine ⟨(by show 3 ≤ sizeLine; decide), fun p4 n4 => ?_⟩
    have b4 := new_ne (u := .tup [.int 0, .int 0, .int 0]) b3 n4
    have g4 : Low b (upd H3 p4 (.tup [.int 0, .int 0, .int 0])) (.ref p4) ∧ Pv b (upd H3 p4 (.tup [.int 0, .int 0, .int 0])) 1 220 (.ref p4) := Gd.tup b3 n4 (d := 0) (B := 70) (by simp) (all_cons (Low.int _ (by decide +kernel)) (all_cons (Low.int _ (by decide +kernel)) (all_cons (Low.int _ (by decide +kernel)) (fun v hv => by cases hv)))) (all_cons ((pv_int (by decide +kernel)).mono (by decide) (by decide)) (all_cons ((pv_int (by decide +kernel)).mono (by decide) (by decide)) (all_cons ((pv_int (by decide +kernel)).mono (by decide) (by decide)) (fun v hv => by cases hv)))) (by simp)
    have s4 : Same H3 (upd H3 p4 (.tup [.int 0, .int 0, .int 0])) := new_same n4
    replace hB := hB.same s4
    replace g1 := And.intro (g1.1.chg (Chg.same s4)) (g1.2.chg (Chg.same s4))
    replace g2 := And.intro (g2.1.chg (Chg.same s4)) (g2.2.chg (Chg.same s4))
    replace g3 := And.intro (g3.1.chg (Chg.same s4)) (g3.2.chg (Chg.same s4))
    replace hC := hC.trans (Chg.same s4)
    clear s4 n4
    generalize upd H3 p4 (.tup [.int 0, .int 0, .int 0]) = H4 at *
    refine ⟨(by show 3 ≤ sizeLine; decide), fun p5 n5 => ?_⟩
    have b5 := new_ne (u := .tup [.int 0, .int 0, .int 0]) b4 n5
    have g5 : Low b (upd H4 p5 (.tup [.int 0, .int 0, .int 0])) (.ref p5) ∧ Pv b (upd H4 p5 (.tup [.int 0, .int 0, .int 0])) 1 220 (.ref p5) := Gd.tup b4 n5 (d := 0) (B := 70) (by simp) (all_cons (Low.int _ (by decide +kernel)) (all_cons (Low.int _ (by decide +kernel)) (all_cons (Low.int _ (by decide +kernel)) (fun v hv => by cases hv)))) (all_cons ((pv_int (by decide +kernel)).mono (by decide) (by decide)) (all_cons ((pv_int (by decide +kernel)).mono (by decide) (by decide)) (all_cons ((pv_int (by decide +kernel)).mono (by decide) (by decide)) (fun v hv => by cases hv)))) (by simp)
    have s5 : Same H4 (upd H4 p5 (.tup [.int 0, .int 0, .int 0])) := new_same n5
    replace hB := hB.same s5
    replace g1 := And.intro (g1.1.chg (Chg.same s5)) (g1.2.chg (Chg.same s5))
    replace g2 := And.intro (g2.1.chg (Chg.same s5)) (g2.2.chg (Chg.same s5))
    replace g3 := And.intro (g3.1.chg (Chg.same s5)) (g3.2.chg (Chg.same s5))
    replace g4 := And.intro (g4.1.chg (Chg.same s5)) (g4.2.chg (Chg.same s5))
    replace hC := hC.trans (Chg.same s5)
    clear s5 n5
    generalize upd H4 p5 (.tup [.int 0, .int 0, .int 0]) = H5 at *
    refine ⟨(by show 2 ≤ sizeLine; decide), fun p6 n6 => ?_⟩
    have b6 := new_ne (u := .tup [.ref p5, .non]) b5 n6
    have g6 : Low b (upd H5 p6 (.tup [.ref p5, .non])) (.ref p6) ∧ Pv b (upd H5 p6 (.tup [.ref p5, .non])) 2 450 (.ref p6) := Gd.tup b5 n6 (d := 1) (B := 220) (by simp) (all_cons g5.1 (all_cons Low.non (fun v hv => by cases hv))) (all_cons (g5.2.mono (by decide) (by decide)) (all_cons (pv_non.mono (by decide) (by decide)) (fun v hv => by cases hv))) (by simp)
    have s6 : Same H5 (upd H5 p6 (.tup [.ref p5, .non])) := new_same n6
    replace hB := hB.same s6
    replace g1 := And.intro (g1.1.chg (Chg.same s6)) (g1.2.chg (Chg.same s6))
    replace g2 := And.intro (g2.1.chg (Chg.same s6)) (g2.2.chg (Chg.same s6))
    replace g3 := And.intro (g3.1.chg (Chg.same s6)) (g3.2.chg (Chg.same s6))
    replace g4 := And.intro (g4.1.chg (Chg.same s6)) (g4.2.chg (Chg.same s6))
    replace g5 := And.intro (g5.1.chg (Chg.same s6)) (g5.2.chg (Chg.same s6))
    replace hC := hC.trans (Chg.same s6)
    clear s6 n6
    generalize upd H5 p6 (.tup [.ref p5, .non]) = H6 at *
    refine ⟨(by show 16 ≤ sizeLine; decide), fun p7 n7 => ?_⟩
    have b7 := new_ne (u := .lst [.non, .bl true, .bl false, .int 0, .int 1, .int (-1), .int (10 ^ (39 : Int).toNat), .str "", .str "a", .str "A", .str "core", .ref p1, .ref p2, .ref p3, .ref p4, .ref p6]) b6 n7
    have s7 : Same H6 (upd H6 p7 (.lst [.non, .bl true, .bl false, .int 0, .int 1, .int (-1), .int (10 ^ (39 : Int).toNat), .str "", .str "a", .str "A", .str "core", .ref p1, .ref p2, .ref p3, .ref p4, .ref p6])) := new_same n7
    replace hB := hB.same s7
    replace g1 := And.intro (g1.1.chg (Chg.same s7)) (g1.2.chg (Chg.same s7))
    replace g2 := And.intro (g2.1.chg (Chg.same s7)) (g2.2.chg (Chg.same s7))
    replace g3 := And.intro (g3.1.chg (Chg.same s7)) (g3.2.chg (Chg.same s7))
    replace g4 := And.intro (g4.1.chg (Chg.same s7)) (g4.2.chg (Chg.same s7))
    replace g5 := And.intro (g5.1.chg (Chg.same s7)) (g5.2.chg (Chg.same s7))
    replace g6 := And.intro (g6.1.chg (Chg.same s7)) (g6.2.chg (Chg.same s7))
    replace hC := hC.trans (Chg.same s7)
    have m7 : (upd H6 p7 (.lst [.non, .bl true, .bl false, .int 0, .int 1, .int (-1), .int (10 ^ (39 : Int).toNat), .str "", .str "a", .str "A", .str "core", .ref p1, .ref p2, .ref p3, .ref p4, .ref p6])) p7 = some (.lst [.non, .bl true, .bl false, .int 0, .int 1, .int (-1), .int (10 ^ (39 : Int).toNat), .str "", .str "a", .str "A", .str "core", .ref p1, .ref p2, .ref p3, .ref p4, .ref p6]) := upd_same
    clear s7 n7
    generalize upd H6 p7 (.lst [.non, .bl true, .bl false, .int 0, .int 1, .int (-1), .int (10 ^ (39 : Int).toNat), .str "", .str "a", .str "A", .str "core", .ref p1, .ref p2, .ref p3, .ref p4, .ref p6]) = H7 at *
    refine ⟨.ref b, rfl, .ref p7, rfl, ⟨(by show 3 ≤ sizeLine; decide), fun p8 n8 => ?_⟩⟩
    have b8 := new_ne (u := .tup [.int 0, .int 0, .int 0]) b7 n8
    have g8 : Low b (upd H7 p8 (.tup [.int 0, .int 0, .int 0])) (.ref p8) ∧ Pv b (upd H7 p8 (.tup [.int 0, .int 0, .int 0])) 1 220 (.ref p8) := Gd.tup b7 n8 (d := 0) (B := 70) (by simp) (all_cons (Low.int _ (by decide +kernel)) (all_cons (Low.int _ (by decide +kernel)) (all_cons (Low.int _ (by decide +kernel)) (fun v hv => by cases hv)))) (all_cons ((pv_int (by decide +kernel)).mono (by decide) (by decide)) (all_cons ((pv_int (by decide +kernel)).mono (by decide) (by decide)) (all_cons ((pv_int (by decide +kernel)).mono (by decide) (by decide)) (fun v hv => by cases hv)))) (by simp)
    have s8 : Same H7 (upd H7 p8 (.tup [.int 0, .int 0, .int 0])) := new_same n8
    replace hB := hB.same s8
    replace g1 := And.intro (g1.1.chg (Chg.same s8)) (g1.2.chg (Chg.same s8))
    replace g2 := And.intro (g2.1.chg (Chg.same s8)) (g2.2.chg (Chg.same s8))
    replace g3 := And.intro (g3.1.chg (Chg.same s8)) (g3.2.chg (Chg.same s8))
    replace g4 := And.intro (g4.1.chg (Chg.same s8)) (g4.2.chg (Chg.same s8))
    replace g5 := And.intro (g5.1.chg (Chg.same s8)) (g5.2.chg (Chg.same s8))
    replace g6 := And.intro (g6.1.chg (Chg.same s8)) (g6.2.chg (Chg.same s8))
    replace m7 := s8 _ _ m7
    replace hC := hC.trans (Chg.same s8)
    clear s8 n8
    generalize upd H7 p8 (.tup [.int 0, .int 0, .int 0]) = H8 at *
    refine ⟨(by show 2 ≤ sizeLine; decide), fun p9 n9 => ?_⟩
    have b9 := new_ne (u := .tup [.ref p8, .non]) b8 n9
    have g9 : Low b (upd H8 p9 (.tup [.ref p8, .non])) (.ref p9) ∧ Pv b (upd H8 p9 (.tup [.ref p8, .non])) 2 450 (.ref p9) := Gd.tup b8 n9 (d := 1) (B := 220) (by simp) (all_cons g8.1 (all_cons Low.non (fun v hv => by cases hv))) (all_cons (g8.2.mono (by decide) (by decide)) (all_cons (pv_non.mono (by decide) (by decide)) (fun v hv => by cases hv))) (by simp)
    have s9 : Same H8 (upd H8 p9 (.tup [.ref p8, .non])) := new_same n9
    replace hB := hB.same s9
    replace g1 := And.intro (g1.1.chg (Chg.same s9)) (g1.2.chg (Chg.same s9))
    replace g2 := And.intro (g2.1.chg (Chg.same s9)) (g2.2.chg (Chg.same s9))
    replace g3 := And.intro (g3.1.chg (Chg.same s9)) (g3.2.chg (Chg.same s9))
    replace g4 := And.intro (g4.1.chg (Chg.same s9)) (g4.2.chg (Chg.same s9))
    replace g5 := And.intro (g5.1.chg (Chg.same s9)) (g5.2.chg (Chg.same s9))
    replace g6 := And.intro (g6.1.chg (Chg.same s9)) (g6.2.chg (Chg.same s9))
    replace m7 := s9 _ _ m7
    replace g8 := And.intro (g8.1.chg (Chg.same s9)) (g8.2.chg (Chg.same s9))
    replace hC := hC.trans (Chg.same s9)
    clear s9 n9
    generalize upd H8 p9 (.tup [.ref p8, .non]) = H9 at *
    refine ⟨(by show 1 ≤ sizeLine; decide), fun p10 n10 => ?_⟩
    have b10 := new_ne (u := .tup [.ref p9]) b9 n10
    have g10 : Low b (upd H9 p10 (.tup [.ref p9])) (.ref p10) ∧ Pv b (upd H9 p10 (.tup [.ref p9])) 3 460 (.ref p10) := Gd.tup b9 n10 (d := 2) (B := 450) (by simp) (all_cons g9.1 (fun v hv => by cases hv)) (all_cons (g9.2.mono (by decide) (by decide)) (fun v hv => by cases hv)) (by simp)
    have s10 : Same H9 (upd H9 p10 (.tup [.ref p9])) := new_same n10
    replace hB := hB.same s10
    replace g1 := And.intro (g1.1.chg (Chg.same s10)) (g1.2.chg (Chg.same s10))
    replace g2 := And.intro (g2.1.chg (Chg.same s10)) (g2.2.chg (Chg.same s10))
    replace g3 := And.intro (g3.1.chg (Chg.same s10)) (g3.2.chg (Chg.same s10))
    replace g4 := And.intro (g4.1.chg (Chg.same s10)) (g4.2.chg (Chg.same s10))
    replace g5 := And.intro (g5.1.chg (Chg.same s10)) (g5.2.chg (Chg.same s10))
    replace g6 := And.intro (g6.1.chg (Chg.same s10)) (g6.2.chg (Chg.same s10))
    replace m7 := s10 _ _ m7
    replace g8 := And.intro (g8.1.chg (Chg.same s10)) (g8.2.chg (Chg.same s10))
    replace g9 := And.intro (g9.1.chg (Chg.same s10)) (g9.2.chg (Chg.same s10))
    replace hC := hC.trans (Chg.same s10)
    clear s10 n10
    generalize upd H9 p10 (.tup [.ref p9]) = H10 at *
    refine ⟨(by show 0 ≤ sizeLine; decide), fun p11 n11 => ?_⟩
    have b11 := new_ne (u := .tup []) b10 n11
    have g11 : Low b (upd H10 p11 (.tup [])) (.ref p11) ∧ Pv b (upd H10 p11 (.tup [])) 1 10 (.ref p11) := Gd.tup b10 n11 (d := 0) (B := 0) (by simp) (fun v hv => by cases hv) (fun v hv => by cases hv) (by simp)
    have s11 : Same H10 (upd H10 p11 (.tup [])) := new_same n11
    replace hB := hB.same s11
    replace g1 := And.intro (g1.1.chg (Chg.same s11)) (g1.2.chg (Chg.same s11))
    replace g2 := And.intro (g2.1.chg (Chg.same s11)) (g2.2.chg (Chg.same s11))
    replace g3 := And.intro (g3.1.chg (Chg.same s11)) (g3.2.chg (Chg.same s11))
    replace g4 := And.intro (g4.1.chg (Chg.same s11)) (g4.2.chg (Chg.same s11))
    replace g5 := And.intro (g5.1.chg (Chg.same s11)) (g5.2.chg (Chg.same s11))
    replace g6 := And.intro (g6.1.chg (Chg.same s11)) (g6.2.chg (Chg.same s11))
    replace m7 := s11 _ _ m7
    replace g8 := And.intro (g8.1.chg (Chg.same s11)) (g8.2.chg (Chg.same s11))
    replace g9 := And.intro (g9.1.chg (Chg.same s11)) (g9.2.chg (Chg.same s11))
    replace g10 := And.intro (g10.1.chg (Chg.same s11)) (g10.2.chg (Chg.same s11))
    replace hC := hC.trans (Chg.same s11)
    clear s11 n11
    generalize upd H10 p11 (.tup []) = H11 at *
    refine ⟨(by show 0 ≤ sizeLine; decide), fun p12 n12 => ?_⟩
    have b12 := new_ne (u := .tup []) b11 n12
    have g12 : Low b (upd H11 p12 (.tup [])) (.ref p12) ∧ Pv b (upd H11 p12 (.tup [])) 1 10 (.ref p12) := Gd.tup b11 n12 (d := 0) (B := 0) (by simp) (fun v hv => by cases hv) (fun v hv => by cases hv) (by simp)
    have s12 : Same H11 (upd H11 p12 (.tup [])) := new_same n12
    replace hB := hB.same s12
    replace g1 := And.intro (g1.1.chg (Chg.same s12)) (g1.2.chg (Chg.same s12))
    replace g2 := And.intro (g2.1.chg (Chg.same s12)) (g2.2.chg (Chg.same s12))
    replace g3 := And.intro (g3.1.chg (Chg.same s12)) (g3.2.chg (Chg.same s12))
    replace g4 := And.intro (g4.1.chg (Chg.same s12)) (g4.2.chg (Chg.same s12))
    replace g5 := And.intro (g5.1.chg (Chg.same s12)) (g5.2.chg (Chg.same s12))
    replace g6 := And.intro (g6.1.chg (Chg.same s12)) (g6.2.chg (Chg.same s12))
    replace m7 := s12 _ _ m7
    replace g8 := And.intro (g8.1.chg (Chg.same s12)) (g8.2.chg (Chg.same s12))
    replace g9 := And.intro (g9.1.chg (Chg.same s12)) (g9.2.chg (Chg.same s12))
    replace g10 := And.intro (g10.1.chg (Chg.same s12)) (g10.2.chg (Chg.same s12))
    replace g11 := And.intro (g11.1.chg (Chg.same s12)) (g11.2.chg (Chg.same s12))
    replace hC := hC.trans (Chg.same s12)
    clear s12 n12
    generalize upd H11 p12 (.tup []) = H12 at *
    refine ⟨(by show 4 ≤ sizeLine; decide), fun p13 n13 => ?_⟩
    have b13 := new_ne (u := .tup [.str "a", .ref p11, .ref p12, .bl true]) b12 n13
    have g13 : Low b (upd H12 p13 (.tup [.str "a", .ref p11, .ref p12, .bl true])) (.ref p13) ∧ Pv b (upd H12 p13 (.tup [.str "a", .ref p11, .ref p12, .bl true])) 2 4050 (.ref p13) := Gd.tup b12 n13 (d := 1) (B := 1010) (by simp) (all_cons (Low.str _ (by decide +kernel) (by decide +kernel)) (all_cons g11.1 (all_cons g12.1 (all_cons (Low.bl _) (fun v hv => by cases hv))))) (all_cons ((pv_str (by decide +kernel) (by decide +kernel)).mono (by decide) (by decide)) (all_cons (g11.2.mono (by decide) (by decide)) (all_cons (g12.2.mono (by decide) (by decide)) (all_cons ((pv_bl _).mono (by decide) (by decide)) (fun v hv => by cases hv))))) (by simp)
    have s13 : Same H12 (upd H12 p13 (.tup [.str "a", .ref p11, .ref p12, .bl true])) := new_same n13
    replace hB := hB.same s13
    replace g1 := And.intro (g1.1.chg (Chg.same s13)) (g1.2.chg (Chg.same s13))
    replace g2 := And.intro (g2.1.chg (Chg.same s13)) (g2.2.chg (Chg.same s13))
    replace g3 := And.intro (g3.1.chg (Chg.same s13)) (g3.2.chg (Chg.same s13))
    replace g4 := And.intro (g4.1.chg (Chg.same s13)) (g4.2.chg (Chg.same s13))
    replace g5 := And.intro (g5.1.chg (Chg.same s13)) (g5.2.chg (Chg.same s13))
    replace g6 := And.intro (g6.1.chg (Chg.same s13)) (g6.2.chg (Chg.same s13))
    replace m7 := s13 _ _ m7
    replace g8 := And.intro (g8.1.chg (Chg.same s13)) (g8.2.chg (Chg.same s13))
    replace g9 := And.intro (g9.1.chg (Chg.same s13)) (g9.2.chg (Chg.same s13))
    replace g10 := And.intro (g10.1.chg (Chg.same s13)) (g10.2.chg (Chg.same s13))
    replace g11 := And.intro (g11.1.chg (Chg.same s13)) (g11.2.chg (Chg.same s13))
    replace g12 := And.intro (g12.1.chg (Chg.same s13)) (g12.2.chg (Chg.same s13))
    replace hC := hC.trans (Chg.same s13)
    clear s13 n13
    generalize upd H12 p13 (.tup [.str "a", .ref p11, .ref p12, .bl true]) = H13 at *
    intro p14 n14
    refine ⟨upd_same, [(Sum.inr "a", .int 1)], rfl, by decide, ?_⟩
    rw [upd_upd, show mergeK [] [((Sum.inr "a" : Key), V.int 1)] = [((Sum.inr "a" : Key), V.int 1)] from by first | rfl | simp [mergeK, putK]]
    have b14 := new_ne (u := .dK [(Sum.inr "a", .int 1)]) b13 n14
    have g14 : Low b (upd H13 p14 (.dK [(Sum.inr "a", .int 1)])) (.ref p14) ∧ Pv b (upd H13 p14 (.dK [(Sum.inr "a", .int 1)])) 1 1090 (.ref p14) := Gd.dic1 b13 n14
    have s14 : Same H13 (upd H13 p14 (.dK [(Sum.inr "a", .int 1)])) := new_same n14
    replace hB := hB.same s14
    replace g1 := And.intro (g1.1.chg (Chg.same s14)) (g1.2.chg (Chg.same s14))
    replace g2 := And.intro (g2.1.chg (Chg.same s14)) (g2.2.chg (Chg.same s14))
    replace g3 := And.intro (g3.1.chg (Chg.same s14)) (g3.2.chg (Chg.same s14))
    replace g4 := And.intro (g4.1.chg (Chg.same s14)) (g4.2.chg (Chg.same s14))
    replace g5 := And.intro (g5.1.chg (Chg.same s14)) (g5.2.chg (Chg.same s14))
    replace g6 := And.intro (g6.1.chg (Chg.same s14)) (g6.2.chg (Chg.same s14))
    replace m7 := s14 _ _ m7
    replace g8 := And.intro (g8.1.chg (Chg.same s14)) (g8.2.chg (Chg.same s14))
    replace g9 := And.intro (g9.1.chg (Chg.same s14)) (g9.2.chg (Chg.same s14))
    replace g10 := And.intro (g10.1.chg (Chg.same s14)) (g10.2.chg (Chg.same s14))
    replace g11 := And.intro (g11.1.chg (Chg.same s14)) (g11.2.chg (Chg.same s14))
    replace g12 := And.intro (g12.1.chg (Chg.same s14)) (g12.2.chg (Chg.same s14))
    replace g13 := And.intro (g13.1.chg (Chg.same s14)) (g13.2.chg (Chg.same s14))
    replace hC := hC.trans (Chg.same s14)
    clear s14 n14
    generalize upd H13 p14 (.dK [(Sum.inr "a", .int 1)]) = H14 at *
    refine ⟨(by show 1 ≤ sizeLine; decide), fun p15 n15 => ?_⟩
    have b15 := new_ne (u := .tup [.str "a"]) b14 n15
    have g15 : Low b (upd H14 p15 (.tup [.str "a"])) (.ref p15) ∧ Pv b (upd H14 p15 (.tup [.str "a"])) 1 1020 (.ref p15) := Gd.tup b14 n15 (d := 0) (B := 1010) (by simp) (all_cons (Low.str _ (by decide +kernel) (by decide +kernel)) (fun v hv => by cases hv)) (all_cons ((pv_str (by decide +kernel) (by decide +kernel)).mono (by decide) (by decide)) (fun v hv => by cases hv)) (by simp)
    have s15 : Same H14 (upd H14 p15 (.tup [.str "a"])) := new_same n15
    replace hB := hB.same s15
    replace g1 := And.intro (g1.1.chg (Chg.same s15)) (g1.2.chg (Chg.same s15))
    replace g2 := And.intro (g2.1.chg (Chg.same s15)) (g2.2.chg (Chg.same s15))
    replace g3 := And.intro (g3.1.chg (Chg.same s15)) (g3.2.chg (Chg.same s15))
    replace g4 := And.intro (g4.1.chg (Chg.same s15)) (g4.2.chg (Chg.same s15))
    replace g5 := And.intro (g5.1.chg (Chg.same s15)) (g5.2.chg (Chg.same s15))
    replace g6 := And.intro (g6.1.chg (Chg.same s15)) (g6.2.chg (Chg.same s15))
    replace m7 := s15 _ _ m7
    replace g8 := And.intro (g8.1.chg (Chg.same s15)) (g8.2.chg (Chg.same s15))
    replace g9 := And.intro (g9.1.chg (Chg.same s15)) (g9.2.chg (Chg.same s15))
    replace g10 := And.intro (g10.1.chg (Chg.same s15)) (g10.2.chg (Chg.same s15))
    replace g11 := And.intro (g11.1.chg (Chg.same s15)) (g11.2.chg (Chg.same s15))
    replace g12 := And.intro (g12.1.chg (Chg.same s15)) (g12.2.chg (Chg.same s15))
    replace g13 := And.intro (g13.1.chg (Chg.same s15)) (g13.2.chg (Chg.same s15))
    replace g14 := And.intro (g14.1.chg (Chg.same s15)) (g14.2.chg (Chg.same s15))
    replace hC := hC.trans (Chg.same s15)
    clear s15 n15
    generalize upd H14 p15 (.tup [.str "a"]) = H15 at *
    refine ⟨(by show 1 ≤ sizeLine; decide), fun p16 n16 => ?_⟩
    have b16 := new_ne (u := .lst [.ref p15]) b15 n16
    have g16 : Low b (upd H15 p16 (.lst [.ref p15])) (.ref p16) ∧ Pv b (upd H15 p16 (.lst [.ref p15])) 2 1030 (.ref p16) := Gd.lst b15 n16 (d := 1) (B := 1020) (all_cons (g15.2.mono (by decide) (by decide)) (fun v hv => by cases hv)) (by simp)
    have s16 : Same H15 (upd H15 p16 (.lst [.ref p15])) := new_same n16
    replace hB := hB.same s16
    replace g1 := And.intro (g1.1.chg (Chg.same s16)) (g1.2.chg (Chg.same s16))
    replace g2 := And.intro (g2.1.chg (Chg.same s16)) (g2.2.chg (Chg.same s16))
    replace g3 := And.intro (g3.1.chg (Chg.same s16)) (g3.2.chg (Chg.same s16))
    replace g4 := And.intro (g4.1.chg (Chg.same s16)) (g4.2.chg (Chg.same s16))
    replace g5 := And.intro (g5.1.chg (Chg.same s16)) (g5.2.chg (Chg.same s16))
    replace g6 := And.intro (g6.1.chg (Chg.same s16)) (g6.2.chg (Chg.same s16))
    replace m7 := s16 _ _ m7
    replace g8 := And.intro (g8.1.chg (Chg.same s16)) (g8.2.chg (Chg.same s16))
    replace g9 := And.intro (g9.1.chg (Chg.same s16)) (g9.2.chg (Chg.same s16))
    replace g10 := And.intro (g10.1.chg (Chg.same s16)) (g10.2.chg (Chg.same s16))
    replace g11 := And.intro (g11.1.chg (Chg.same s16)) (g11.2.chg (Chg.same s16))
    replace g12 := And.intro (g12.1.chg (Chg.same s16)) (g12.2.chg (Chg.same s16))
    replace g13 := And.intro (g13.1.chg (Chg.same s16)) (g13.2.chg (Chg.same s16))
    replace g14 := And.intro (g14.1.chg (Chg.same s16)) (g14.2.chg (Chg.same s16))
    replace g15 := And.intro (g15.1.chg (Chg.same s16)) (g15.2.chg (Chg.same s16))
    replace hC := hC.trans (Chg.same s16)
    clear s16 n16
    generalize upd H15 p16 (.lst [.ref p15]) = H16 at *
    refine ⟨(by show 6 ≤ sizeLine; decide), fun p17 n17 => ?_⟩
    have b17 := new_ne (u := .lst [.ref p10, .ref p13, .ref p14, .ref p16, .str "1.2.3", .str "a/b"]) b16 n17
    have s17 : Same H16 (upd H16 p17 (.lst [.ref p10, .ref p13, .ref p14, .ref p16, .str "1.2.3", .str "a/b"])) := new_same n17
    replace hB := hB.same s17
    replace g1 := And.intro (g1.1.chg (Chg.same s17)) (g1.2.chg (Chg.same s17))
    replace g2 := And.intro (g2.1.chg (Chg.same s17)) (g2.2.chg (Chg.same s17))
    replace g3 := And.intro (g3.1.chg (Chg.same s17)) (g3.2.chg (Chg.same s17))
    replace g4 := And.intro (g4.1.chg (Chg.same s17)) (g4.2.chg (Chg.same s17))
    replace g5 := And.intro (g5.1.chg (Chg.same s17)) (g5.2.chg (Chg.same s17))
    replace g6 := And.intro (g6.1.chg (Chg.same s17)) (g6.2.chg (Chg.same s17))
    replace m7 := s17 _ _ m7
    replace g8 := And.intro (g8.1.chg (Chg.same s17)) (g8.2.chg (Chg.same s17))
    replace g9 := And.intro (g9.1.chg (Chg.same s17)) (g9.2.chg (Chg.same s17))
    replace g10 := And.intro (g10.1.chg (Chg.same s17)) (g10.2.chg (Chg.same s17))
    replace g11 := And.intro (g11.1.chg (Chg.same s17)) (g11.2.chg (Chg.same s17))
    replace g12 := And.intro (g12.1.chg (Chg.same s17)) (g12.2.chg (Chg.same s17))
    replace g13 := And.intro (g13.1.chg (Chg.same s17)) (g13.2.chg (Chg.same s17))
    replace g14 := And.intro (g14.1.chg (Chg.same s17)) (g14.2.chg (Chg.same s17))
    replace g15 := And.intro (g15.1.chg (Chg.same s17)) (g15.2.chg (Chg.same s17))
    replace g16 := And.intro (g16.1.chg (Chg.same s17)) (g16.2.chg (Chg.same s17))
    replace hC := hC.trans (Chg.same s17)
    have m17 : (upd H16 p17 (.lst [.ref p10, .ref p13, .ref p14, .ref p16, .str "1.2.3", .str "a/b"])) p17 = some (.lst [.ref p10, .ref p13, .ref p14, .ref p16, .str "1.2.3", .str "a/b"]) := upd_same
    clear s17 n17
    generalize upd H16 p17 (.lst [.ref p10, .ref p13, .ref p14, .ref p16, .str "1.2.3", .str "a/b"]) = H17 at *
    refine ⟨p7, p17, _, _, rfl, rfl, m7, m17, (by show 22 ≤ sizeLine; decide), fun p18 n18 => ?_⟩
    refine ⟨b, p18, _, rfl, hB.same (new_same n18), upd_same, (ne_new b17 n18).symm, (by simp), (by simp), fun H' x hC' hB' hx => ?_⟩
    have c2 : Chg b H17 H' := (Chg.new n18).trans hC'
    have all : ∀ x ∈ [(.non : V), (.bl true : V), (.bl false : V), (.int 0 : V), (.int 1 : V), (.int (-1) : V), (.int (10 ^ (39 : Int).toNat) : V), (.str "" : V), (.str "a" : V), (.str "A" : V), (.str "core" : V), (.ref p1 : V), (.ref p2 : V), (.ref p3 : V), (.ref p4 : V), (.ref p6 : V), (.ref p10 : V), (.ref p13 : V), (.ref p14 : V), (.ref p16 : V), (.str "1.2.3" : V), (.str "a/b" : V)], Low b H17 x ∧ Pv b H17 3 4100 x := (all_cons ⟨Low.non, pv_non.mono (by decide) (by decide)⟩ (all_cons ⟨(Low.bl _), (pv_bl _).mono (by decide) (by decide)⟩ (all_cons ⟨(Low.bl _), (pv_bl _).mono (by decide) (by decide)⟩ (all_cons ⟨(Low.int _ (by decide +kernel)), (pv_int (by decide +kernel)).mono (by decide) (by decide)⟩ (all_cons ⟨(Low.int _ (by decide +kernel)), (pv_int (by decide +kernel)).mono (by decide) (by decide)⟩ (all_cons ⟨(Low.int _ (by decide +kernel)), (pv_int (by decide +kernel)).mono (by decide) (by decide)⟩ (all_cons ⟨(Low.int _ (by decide +kernel)), (pv_int (by decide +kernel)).mono (by decide) (by decide)⟩ (all_cons ⟨(Low.str _ (by decide +kernel) (by decide +kernel)), (pv_str (by decide +kernel) (by decide +kernel)).mono (by decide) (by decide)⟩ (all_cons ⟨(Low.str _ (by decide +kernel) (by decide +kernel)), (pv_str (by decide +kernel) (by decide +kernel)).mono (by decide) (by decide)⟩ (all_cons ⟨(Low.str _ (by decide +kernel) (by decide +kernel)), (pv_str (by decide +kernel) (by decide +kernel)).mono (by decide) (by decide)⟩ (all_cons ⟨(Low.str _ (by decide +kernel) (by decide +kernel)), (pv_str (by decide +kernel) (by decide +kernel)).mono (by decide) (by decide)⟩ (all_cons ⟨g1.1, g1.2.mono (by decide) (by decide)⟩ (all_cons ⟨g2.1, g2.2.mono (by decide) (by decide)⟩ (all_cons ⟨g3.1, g3.2.mono (by decide) (by decide)⟩ (all_cons ⟨g4.1, g4.2.mono (by decide) (by decide)⟩ (all_cons ⟨g6.1, g6.2.mono (by decide) (by decide)⟩ (all_cons ⟨g10.1, g10.2.mono (by decide) (by decide)⟩ (all_cons ⟨g13.1, g13.2.mono (by decide) (by decide)⟩ (all_cons ⟨g14.1, g14.2.mono (by decide) (by decide)⟩ (all_cons ⟨g16.1, g16.2.mono (by decide) (by decide)⟩ (all_cons ⟨(Low.str _ (by decide +kernel) (by decide +kernel)), (pv_str (by decide +kernel) (by decide +kernel)).mono (by decide) (by decide)⟩ (all_cons ⟨(Low.str _ (by decide +kernel) (by decide +kernel)), (pv_str (by decide +kernel) (by decide +kernel)).mono (by decide) (by decide)⟩ (fun v hv => by cases hv)))))))))))))))))))))))
    obtain ⟨z1, z2⟩ := all x hx
    exact q H' x (hC.trans c2) hB' (z1.chg c2) (z2.chg c2)
end
end V0
/-! A value bent. -/
namespace V0
open PySem PySem.Spec PyProof.Rows L2
abbrev sBent : Stmt := topS 19
theorem scBent : FnScope ["bag", "thing", "deep", "way", "at"] ["bag", "thing", "deep"] (defScope sBent) := ⟨rfl, rfl, rfl, by decide +kernel, rfl, by decide +kernel, by decide +kernel⟩
def CB : Nat → Nat
  | 0 => 4100
  | n + 1 => 10 + 12 * CB n
theorem CB_ge : ∀ n, 4100 ≤ CB n
  | 0 => Nat.le_refl _
  | n + 1 => by have := CB_ge n; show 4100 ≤ 10 + 12 * CB n; omega
theorem CB_mono (n : Nat) : CB n ≤ CB (n + 1) := by show CB n ≤ 10 + 12 * CB n; omega
theorem ofs_ok (s : String) : ∀ k ∈ (PySem.Str.ofString s).cps.toList, k < 16 ^ 8 := by
  intro k hk
  rw [signs_ofString] at hk
  obtain ⟨c, _, rfl⟩ := List.mem_map.mp hk
  exact c.val.toNat_lt
theorem cat_ok {x y : PySem.Str} {m n : Nat} (hx : x.length ≤ m) (hy : y.length ≤ n) (cx : ∀ k ∈ x.cps.toList, k < 16 ^ 8) (cy : ∀ k ∈ y.cps.toList, k < 16 ^ 8) (h : m + n ≤ 100) : (x ++ y).length ≤ 100 ∧ ∀ k ∈ (x ++ y).cps.toList, k < 16 ^ 8 := by
  constructor
  · rw [strLen_append]; omega
  · intro k hk
    have e : (x ++ y).cps.toList = x.cps.toList ++ y.cps.toList := by
      show (x.cps ++ y.cps).toList = _
      simp
    rw [e] at hk
    rcases List.mem_append.mp hk with z | z
    · exact cx k z
    · exact cy k z
theorem CB_fit {m k : Nat} (h : k ≤ 12) : 10 + CB m * k ≤ CB (m + 1) := by
  show 10 + CB m * k ≤ 10 + 12 * CB m
  have := Nat.mul_le_mul_left (CB m) h
  omega
theorem small_int {i : Int} (h : i.natAbs < 10 ^ 50) : i.natAbs.log2 < 1920 := by
  by_cases h0 : i.natAbs = 0
  · rw [h0]; decide
  · exact (Nat.log2_lt h0).mpr (Nat.lt_trans h (by decide +kernel))
theorem str_text {i : Int} (h : i.natAbs < 10 ^ 50) : (PySem.Str.ofString (toString i)).length ≤ 100 := by
  have q := int_text_length_le10 (k := 50) (by decide) h
  have e : (PySem.Str.ofString (toString i)).length = (toString i).length := PySem.ofString_length _
  clear h
  omega
section
variable {P : Program} {w : World} {K : PySem.W.Frag} {mg : PySem.Str → Option Value} {base : Heap}
/-- bent at depth n - 1 (nothing is promised at 0) -/
def spBent : Nat → Sp
  | 0 => fun _ _ _ _ => False
  | n + 1 => fun vs H Q _ => ∃ (b : Addr) (v : V), vs = [.ref b, v, .int (n : Nat)] ∧ Bag H b ∧ Low b H v ∧ Pv b H 3 4100 v ∧ ∀ H' v', Chg b H H' → Bag H' b → Pv b H' (3 + n) (CB n) v' → Q v' H'
structure Fns (K : PySem.W.Frag) (mg : PySem.Str → Option Value) (fT fO fI fD fB : Addr) (dT dO dI dD dB : FuncData) : Prop where
  FT : Fun K "_law_take" "_law_take" sTake fT dT
  FO : Fun K "_law_one" "_law_one" sOne fO dO
  FI : Fun K "_law_integer" "_law_integer" sInteger fI dI
  FD : Fun K "_law_odd" "_law_odd" sOdd fD dD
  FB : Fun K "_law_bent" "_law_bent" sBent fB dB
  bT : Binds K dT ["bag", "many"] []
  bO : Binds K dO ["bag", "things"] []
  bI : Binds K dI ["thing"] []
  bD : Binds K dD ["bag"] []
  bB : Binds K dB ["bag", "thing", "deep"] []
  gT : mg "_law_take" = some (.ref fT)
  gO : mg "_law_one" = some (.ref fO)
  gI : mg "_law_integer" = some (.ref fI)
  gD : mg "_law_odd" = some (.ref fD)
  gB : mg "_law_bent" = some (.ref fB)
  mInt : mg "int" = none
  mLen : mg "len" = none
  mIsi : mg "isinstance" = none
  mBool : mg "bool" = none
  mStr : mg "str" = none
  mTup : mg "tuple" = none
  mList : mg "list" = none
theorem ok_bent {fT fO fI fD fB : Addr} {dT dO dI dD dB : FuncData} (T : Fns K mg fT fO fI fD fB dT dO dI dD dB) : ∀ n : Nat, FnOk P w K mg base CX0 (5 + n) fB dB ["bag", "thing", "deep"] (spBent n)
  | 0 => ⟨fun vs H Q E h => h.elim, fun A outer s H args us vs Q E hr e0 hb r h => h.elim⟩
  | n + 1 => by
    have GB := ok_bent T n
    have GT : FnOk P w K mg base CX0 1 fT dT ["bag", "many"] spTake := ok_take T.FT T.mInt
    have GO : FnOk P w K mg base CX0 2 fO dO ["bag", "things"] spOne := ok_one T.FO T.FT T.bT T.gT T.mInt T.mLen
    have GI : FnOk P w K mg base CX0 1 fI dI ["thing"] spInteger := ok_integer T.FI T.mIsi T.mInt T.mBool
    have GD : FnOk P w K mg base CX0 3 fD dD ["bag"] spOdd := ok_odd T.FD T.FO T.bO T.gO T.FT T.bT T.gT T.mInt T.mLen
    refine T.FB.ok scBent (fun vs H Q E h => ?_) (fun cdv A outer s H vs Q E hr h => ?_)
    · obtain ⟨b, v, rfl, _⟩ := h
      rfl
    · obtain ⟨b, v, rfl, hB, lo, hpv, q⟩ := h
      have hr1 : Room 1 _ := hr.mono (show 1 ≤ 5 + n by omega)
      have hr2 : Room 2 _ := hr.mono (show 2 ≤ 5 + n by omega)
      have hr3 : Room 3 _ := hr.mono (show 3 ≤ 5 + n by omega)
      refine ⟨_, C8.pss_cut (ps_if (pt_mid (PW.pt (pw_and (pt_val (pe_callB call_isi (by rfl) T.mIsi (by decide +kernel) (pa_cons (pv 1) (pa_cons (pe_bltn (v := .ty "str") (u := .type "str") (by rfl) T.mStr (by decide +kernel) rfl) pa_nil))))
            (pw_and1 (pt_cmpR op_eq (pe_call GT hr1 (by rfl) T.gT T.FT.kp T.bT .nil pass0 (pa_cons (pv 0) (pa_cons pe_int pa_nil))) pe_int (nomark _))))))
          (pss_one (ps_ret (pe_call GO hr2 (by rfl) T.gO T.FO.kp T.bO .nil pass0 (pa_cons (pv 0) (pa_cons (pe_lst (pa_cons (pe_op op_add_str (pv 1) pe_str) (pa_cons (pe_op op_add_str (pv 1) pe_str) (pa_cons (pe_slice sl_str (pv 1) (po_some pe_int) po_none)
            (pa_cons (pe_rev (pv 1)) (pa_cons (pe_op op_add_str pe_str (pv 1)) (pa_cons (pe_op op_add_str (pv 1) pe_str) (pa_cons pe_str pa_nil)))))))) pa_nil))))) pss_nil)
        (C8.pss_cut (ps_if (pt_mid (PW.pt (pw_or (pt_not (pt_val (pe_callB call_isi (by rfl) T.mIsi (by decide +kernel) (pa_cons (pv 1) (pa_cons (pe_bltn (v := .ty "tuple") (u := .type "tuple") (by rfl) T.mTup (by decide +kernel) rfl) pa_nil)))))
            (pw_or (pt_cmpR (op_eqT0 hr1.units0) (pv 1) (pe_tup pa_nil) (nomark _)) (pw_or1 (pt_cmpR op_eq (pv 2) pe_int (nomark _)))))))
          (C8.pss_cut (ps_if (pt_mid (PW.pt (pw_and (pt_val (pe_call GI hr1 (by rfl) T.gI T.FI.kp T.bI .nil pass0 (pa_cons (pv 1) pa_nil)))
              (pw_and1 (pt_cmpR op_gt (pe_call GT hr1 (by rfl) T.gT T.FT.kp T.bT .nil pass0 (pa_cons (pv 0) (pa_cons pe_int pa_nil))) pe_int (nomark _))))))
            (pss_one (ps_ret (pe_call GO hr2 (by rfl) T.gO T.FO.kp T.bO .nil pass0 (pa_cons (pv 0) (pa_cons (pe_lst (pa_cons (pe_op op_add (pv 1) pe_int) (pa_cons (pe_op op_sub (pv 1) pe_int) (pa_cons (pe_op op_sub pe_int (pv 1))
              (pa_cons (pe_op op_add (pv 1) (pe_op op_pow pe_int pe_int)) (pa_cons (pe_callTy call_str_int (by rfl) T.mStr (by decide +kernel) (pa_cons (pv 1) pa_nil)) (pa_cons (pe_cmpR op_eq (pv 1) pe_int (nomark _)) pa_nil))))))) pa_nil))))) pss_nil)
          (C8.pss_cut (ps_if (pt_mid (PW.pt (pw_and (pt_val (pe_callB call_isi (by rfl) T.mIsi (by decide +kernel) (pa_cons (pv 1) (pa_cons (pe_bltn (v := .ty "bool") (u := .type "bool") (by rfl) T.mBool (by decide +kernel) rfl) pa_nil))))
              (pw_and1 (pt_cmpR op_eq (pe_call GT hr1 (by rfl) T.gT T.FT.kp T.bT .nil pass0 (pa_cons (pv 0) (pa_cons pe_int pa_nil))) pe_int (nomark _))))))
            (pss_one (ps_ret (pe_callTy call_int1 (by rfl) T.mInt (by decide +kernel) (pa_cons (pv 1) pa_nil)))) pss_nil)
          (pss_one (ps_ret (pe_call GD hr3 (by rfl) T.gD T.FD.kp T.bD .nil pass0 (pa_cons (pv 0) pa_nil)))))) pss_nil)
        (C8.pss_cut (ps_par (i := 3) (j := 4) rfl scBent.nd rfl rfl (by decide) rfl rfl (pa_cons (pe_call GT hr1 (by rfl) T.gT T.FT.kp T.bT .nil pass0 (pa_cons (pv 0) (pa_cons pe_int pa_nil)))
            (pa_cons (pe_call GT hr1 (by rfl) T.gT T.FT.kp T.bT .nil pass0 (pa_cons (pv 0) (pa_cons (pe_callB call_len_seq (by rfl) T.mLen PySem.boot_len (pa_cons (pv 1) pa_nil)) pa_nil))) pa_nil)) (by rfl))
        (pss_cons (ps_if (pt_cmpR op_eq (pv 3) pe_int (nomark _)) (pss_one (ps_ret (pe_callTy call_list_of (by rfl) T.mList (by decide +kernel) (pa_cons (pv 1) pa_nil)))) pss_nil)
        (pss_cons (ps_if (pt_cmpR op_eq (pv 3) pe_int (nomark _)) (pss_one (ps_ret (pe_op (op_cattp b (3 + (n - 1)) (CB (n - 1))) (pe_slice (sl_tp b (3 + (n - 1)) (CB (n - 1))) (pv 1) po_none (po_some (pv 4))) (pe_slice (sl_tp b (3 + (n - 1)) (CB (n - 1))) (pv 1) (po_some (pe_op op_add (pv 4) pe_int)) po_none)))) pss_nil)
        (pss_cons (ps_if (pt_cmpR op_eq (pv 3) pe_int (nomark _)) (pss_one (ps_ret (pe_op (op_cattp b (3 + (n - 1)) (CB (n - 1))) (pe_op (op_cattp b (3 + (n - 1)) (CB (n - 1))) (pe_slice (sl_tp b (3 + (n - 1)) (CB (n - 1))) (pv 1) po_none (po_some (pv 4)))
            (pe_tup (pa_cons (pe_call GD hr3 (by rfl) T.gD T.FD.kp T.bD .nil pass0 (pa_cons (pv 0) pa_nil)) pa_nil))) (pe_slice (sl_tp b (3 + (n - 1)) (CB (n - 1))) (pv 1) (po_some (pv 4)) po_none)))) pss_nil)
        (pss_cons (ps_if (pt_cmpR op_eq (pv 3) pe_int (nomark _)) (pss_one (ps_ret (pe_rev (pv 1)))) pss_nil)
        (pss_cons (ps_if (pt_cmpR op_eq (pv 3) pe_int (nomark _)) (pss_one (ps_ret (pe_op (op_cattp b (3 + (n - 1)) (CB (n - 1))) (pe_op (op_cattp b (3 + (n - 1)) (CB (n - 1))) (pe_slice (sl_tp b (3 + (n - 1)) (CB (n - 1))) (pv 1) po_none (po_some (pv 4)))
            (pe_slice (sl_tp b (3 + (n - 1)) (CB (n - 1))) (pv 1) (po_some (pv 4)) (po_some (pe_op op_add (pv 4) pe_int)))) (pe_slice (sl_tp b (3 + (n - 1)) (CB (n - 1))) (pv 1) (po_some (pv 4)) po_none)))) pss_nil)
        (pss_one (ps_ret (pe_op (op_cattp b (3 + (n - 1)) (CB (n - 1))) (pe_op (op_cattp b (3 + (n - 1)) (CB (n - 1))) (pe_slice (sl_tp b (3 + (n - 1)) (CB (n - 1))) (pv 1) po_none (po_some (pv 4)))
            (pe_tup (pa_cons (pe_call GB (hr.mono (Nat.le_refl _)) (by rfl) T.gB T.FB.kp T.bB .nil pass0 (pa_cons (pv 0) (pa_cons (pe_ix ix_tup (pv 1) (pv 4) (fun _ _ => rfl)) (pa_cons (pe_op op_sub (pv 2) pe_int) pa_nil)))) pa_nil)))
            (pe_slice (sl_tp b (3 + (n - 1)) (CB (n - 1))) (pv 1) (po_some (pe_op op_add (pv 4) pe_int)) po_none))))))))))), ?_⟩
      have big := CB_ge n
      obtain ⟨T1, ty, t1, t2, t3, tc, t4, t5⟩ := lo.ty K
      refine ⟨fun σ' H' => σ' = [some (.ref b), some v, some (.int (n : Nat)), none, none] ∧ Chg b H H' ∧ Bag H' b, ?_, ?_⟩
      · refine ⟨fun c H' => Chg b H H' ∧ Bag H' b ∧ (c = true → isS v = true), ?_, fun c H' ⟨hC, hB', hv⟩ => ite2 (fun e => ?_) (fun e => ⟨rfl, hC, hB'⟩)⟩
        · refine ⟨v, rfl, v, .ty "str", _, _, _, rfl, .ty "str", ty, t3, _, rfl, ite2 (fun e => ?_) (fun e => ⟨Chg.refl, hB, fun z => by cases z⟩)⟩
          exact ⟨.ref b, rfl, b, 2, rfl, hB, by decide, by decide, fun H' x hC hB' x0 x1 => ⟨rfl, _, rfl, hC, hB', fun _ => e⟩⟩
        · obtain ⟨x, rfl⟩ : ∃ x, v = .str x := by
            have z := hv e
            cases v <;> first | exact ⟨_, rfl⟩ | (simp [isS] at z)
          cases lo with
          | str _ hx hc =>
            have fit : ∀ k : Nat, k ≤ 1000 → k ≤ sizeLine := fun k hk => by rw [sizeLine_eq]; omega
            have lx : x.length ≤ 1000 := by omega
            have one1 : ∀ y : PySem.Str, y.length = 1 → x.length + y.length ≤ sizeLine ∧ y.length + x.length ≤ sizeLine := fun y hy => ⟨fit _ (by omega), fit _ (by omega)⟩
            refine ⟨.ref b, rfl, .str x, rfl, x, "A", rfl, rfl, (one1 "A" (by decide +kernel)).1, .str x, rfl, x, "a", rfl, rfl, (one1 "a" (by decide +kernel)).1, .str x, rfl, 1, rfl, x, rfl, fit _ lx, .str x, rfl, .inl ⟨x, rfl, fit _ lx, fun y hy1 hy2 => ?_⟩⟩
            refine ⟨.str x, rfl, "-", x, rfl, rfl, (one1 "-" (by decide +kernel)).2, .str x, rfl, x, "/", rfl, rfl, (one1 "/" (by decide +kernel)).1, by show 7 ≤ sizeLine; decide, fun p np => ?_⟩
            obtain ⟨ob, hb⟩ : ∃ o, H' b = some o := by obtain ⟨n, m, k, l, cs, hb, _⟩ := hB'; exact ⟨_, hb⟩
            refine ⟨b, p, _, rfl, hB'.same (new_same np), upd_same, (ne_new hb np).symm, by simp, by simp, fun H2 z hC2 hB2 hz => ?_⟩
            have cut1 : (cutS x (some 1) none).length ≤ 100 := Nat.le_trans (cutS_length _ _ _) (by omega)
            have short : ∀ y : PySem.Str, y.length = 1 → y.length ≤ 10 := fun y h => by omega
            have all : ∀ z ∈ [V.str (x ++ ("A" : PySem.Str)), .str (x ++ ("a" : PySem.Str)), .str (cutS x (some 1) none), .str y, .str (("-" : PySem.Str) ++ x), .str (x ++ ("/" : PySem.Str)), .str ""], ∃ y : PySem.Str, z = .str y ∧ y.length ≤ 100 ∧ ∀ k ∈ y.cps.toList, k < 16 ^ 8 :=
              all_cons ⟨_, rfl, cat_ok hx (n := 1) (by decide +kernel) hc (ofs_ok _) (by decide)⟩ (all_cons ⟨_, rfl, cat_ok hx (n := 1) (by decide +kernel) hc (ofs_ok _) (by decide)⟩ (all_cons ⟨_, rfl, cut1, fun k hk => hc k (cut_mem hk)⟩
                (all_cons ⟨_, rfl, by omega, fun k hk => hc k (hy2 k hk)⟩ (all_cons ⟨_, rfl, cat_ok (m := 1) (by decide +kernel) hx (ofs_ok _) hc (by decide)⟩ (all_cons ⟨_, rfl, cat_ok hx (n := 1) (by decide +kernel) hc (ofs_ok _) (by decide)⟩
                (all_cons ⟨_, rfl, by decide +kernel, ofs_ok _⟩ fun z hz => by cases hz))))))
            obtain ⟨y2, rfl, h1, h2⟩ := all z hz
            exact q _ _ ((hC.trans (Chg.new np)).trans hC2) hB2 ((pv_str h1 h2).mono (by omega) (by omega))
      · rintro σ' H1 ⟨rfl, hC1, hB1⟩
        refine ⟨fun σ' H' => σ' = [some (.ref b), some v, some (.int (n : Nat)), none, none] ∧ Chg b H H' ∧ Bag H' b ∧ ∃ a xs, v = .ref a ∧ a ≠ b ∧ H' a = some (.tup xs) ∧ xs ≠ [] ∧ xs.length ≤ 4 ∧ (∀ v ∈ xs, Low b H' v) ∧ n ≠ 0, ?_, ?_⟩
        · obtain ⟨T2, ty', u1, u2, u3, uc, u4, u5⟩ := (lo.chg hC1).ty K
          refine ⟨fun c H' => Chg b H H' ∧ Bag H' b ∧ (c = false → ∃ a xs, v = .ref a ∧ a ≠ b ∧ H' a = some (.tup xs) ∧ xs ≠ [] ∧ xs.length ≤ 4 ∧ (∀ v ∈ xs, Low b H' v) ∧ n ≠ 0), ?_, fun c H2 ⟨hC2, hB2, hv⟩ => ite2 (fun e => ?_) (fun e => ⟨rfl, hC2, hB2, hv (by simpa using e)⟩)⟩
          · refine ⟨v, rfl, v, .ty "tuple", _, _, _, rfl, .ty "tuple", ty', u4, uc, rfl, ite2 (fun e => ⟨hC1, hB1, fun z => by cases z⟩) (fun e => ?_)⟩
            obtain ⟨a, xs, rfl, ne, hx, hl, hlo⟩ := u5 (by cases uc <;> simp_all)
            refine ⟨.ref a, rfl, by show 0 ≤ sizeLine; exact Nat.zero_le _, fun p np => ⟨a, p, xs, rfl, rfl, .inl (.inl (new_ne hx np)), .inl (.inl upd_same), _, rfl, ite2 (fun e => ?_) (fun e => ?_)⟩⟩
            · exact ⟨hC1.trans (Chg.new np), hB1.same (new_same np), fun z => by cases z⟩
            · refine ⟨_, rfl, rfl, _, rfl, hC1.trans (Chg.new np), hB1.same (new_same np), fun z => ⟨a, xs, rfl, ne, new_ne hx np, fun y => e (by rw [y]; rfl), hl, fun v hv => (hlo v hv).chg (Chg.new np), fun hn => ?_⟩⟩
              subst hn
              exact absurd rfl (of_decide_eq_false z)
          · have lo2 := lo.chg hC2
            refine ⟨fun σ' H' => σ' = [some (.ref b), some v, some (.int (n : Nat)), none, none] ∧ Chg b H H' ∧ Bag H' b, ?_, ?_⟩
            · refine ⟨fun c H' => Chg b H H' ∧ Bag H' b ∧ (c = true → isI v = true), ?_, fun c H3 ⟨hC3, hB3, hv⟩ => ite2 (fun e => ?_) (fun e => ⟨rfl, hC3, hB3⟩)⟩
              · refine ⟨v, rfl, b, v, rfl, lo2, _, rfl, ite2 (fun e => ?_) (fun e => ⟨hC2, hB2, fun z => by cases z⟩)⟩
                exact ⟨.ref b, rfl, b, 3, rfl, hB2, by decide, by decide, fun H' x hC hB' x0 x1 => ⟨x, 0, rfl, rfl, _, rfl, hC2.trans hC, hB', fun _ => e⟩⟩
              · obtain ⟨i, rfl⟩ : ∃ i, v = .int i := by
                  have z := hv e
                  cases v <;> first | exact ⟨_, rfl⟩ | (simp [isI] at z)
                cases lo with
                | int _ hi =>
                  refine ⟨.ref b, rfl, .int i, rfl, i, 1, rfl, rfl, .int i, rfl, i, 1, rfl, rfl, .int i, rfl, 0, i, rfl, rfl, .int i, rfl, 10, 6, rfl, rfl, ⟨by decide, by decide, by decide⟩, i, _, rfl, rfl, .int i, rfl, i, rfl, small_int hi, .int i, rfl, rfl, by show 6 ≤ sizeLine; decide, fun p np => ?_⟩
                  obtain ⟨ob, hb⟩ : ∃ o, H3 b = some o := by obtain ⟨n, m, k, l, cs, hb, _⟩ := hB3; exact ⟨_, hb⟩
                  refine ⟨b, p, _, rfl, hB3.same (new_same np), upd_same, (ne_new hb np).symm, by simp, by simp, fun H4 z hC4 hB4 hz => ?_⟩
                  have up : ∀ {b : Addr} {H : Hp} {j : Int}, j.natAbs < 10 ^ 60 → Pv b H 0 1010 (.int j) := fun h => (pv_int h).mono (Nat.le_refl _) (by decide)
                  have p6 : (i + 10 ^ (6 : Int).toNat).natAbs < 10 ^ 60 := by
                    have e6 : (10 : Int) ^ (6 : Int).toNat = 1000000 := by decide
                    rw [e6]
                    omega
                  have all : ∀ {H : Hp}, ∀ z ∈ [V.int (i + 1), .int (i - 1), .int (0 - i), .int (i + 10 ^ (6 : Int).toNat), .str (PySem.Str.ofString (toString i)), .bl (decide (V.int i = V.int 1))], Pv b H 0 1010 z := fun {H} =>
                    all_cons (up (by omega)) (all_cons (up (by omega)) (all_cons (up (by omega)) (all_cons (up p6) (all_cons (pv_str (str_text hi) (ofs_ok _)) (all_cons ((pv_bl _).mono (Nat.le_refl _) (by decide)) fun z hz => by cases hz)))))
                  exact q _ _ ((hC3.trans (Chg.new np)).trans hC4) hB4 ((all z hz).mono (by omega) (by omega))
            · rintro σ' H3 ⟨rfl, hC3, hB3⟩
              have lo3 := lo.chg hC3
              obtain ⟨T4, ty4, w1, w2, w3, _⟩ := lo3.ty K
              refine ⟨fun σ' H' => σ' = [some (.ref b), some v, some (.int (n : Nat)), none, none] ∧ Chg b H H' ∧ Bag H' b, ?_, ?_⟩
              · refine ⟨fun c H' => Chg b H H' ∧ Bag H' b ∧ (c = true → isB v = true), ?_, fun c H4 ⟨hC4, hB4, hv⟩ => ite2 (fun e => ?_) (fun e => ⟨rfl, hC4, hB4⟩)⟩
                · refine ⟨v, rfl, v, .ty "bool", _, _, _, rfl, .ty "bool", ty4, w2, _, rfl, ite2 (fun e => ?_) (fun e => ⟨hC3, hB3, fun z => by cases z⟩)⟩
                  exact ⟨.ref b, rfl, b, 2, rfl, hB3, by decide, by decide, fun H' x hC hB' x0 x1 => ⟨rfl, _, rfl, hC3.trans hC, hB', fun _ => e⟩⟩
                · obtain ⟨i, rfl⟩ : ∃ i, v = .bl i := by
                    have z := hv e
                    cases v <;> first | exact ⟨_, rfl⟩ | (simp [isB] at z)
                  refine ⟨_, rfl, .inr ⟨i, rfl, q _ _ hC4 hB4 ((pv_int ?_).mono (by omega) (by omega))⟩⟩
                  cases i <;> decide +kernel
              · rintro σ' H4 ⟨rfl, hC4, hB4⟩
                exact ⟨.ref b, rfl, b, rfl, hB4, fun H' x hC hB' lo' pv' => q _ _ (hC4.trans hC) hB' (pv'.mono (by omega) big)⟩
        · rintro σ' H2 ⟨rfl, hC2, hB2, a, xs, rfl, ne, hx2, hne, hl, hlo, hn0⟩
          obtain ⟨m, rfl⟩ : ∃ m, n = m + 1 := ⟨n - 1, by omega⟩
          have big' := CB_ge m
          obtain ⟨_, its⟩ := (hpv.chg hC2).items hx2
          have len1 : 1 ≤ xs.length := List.length_pos_iff.mpr hne
          have hall : Pv b H2 (3 + m + 1) (10 + CB m * xs.length) (.ref a) := (hpv.chg hC2).mono (by omega) (by
            have := Nat.mul_le_mul_left (CB m) len1
            omega)
          have tp2 : Tp b H2 (3 + m) (CB m) a xs := ⟨hx2, fun v hv => (its v hv).mono (by omega) big', hall, ne⟩
          refine ⟨fun σ' H' => ∃ wy at_, σ' = [some (.ref b), some (.ref a), some (.int ((m + 1 : Nat) : Int)), some (.int wy), some (.int at_)] ∧ Chg b H2 H' ∧ Bag H' b ∧ 0 ≤ at_ ∧ at_ < xs.length, ?_, ?_⟩
          · refine ⟨.ref b, rfl, b, 14, rfl, hB2, by decide, by decide, fun H3 x hC3 hB3 _ _ => ⟨.ref b, rfl, .ref a, rfl, a, xs, rfl, .inr (.inl (.inl (hC3 _ _ ne hx2))), b, _, rfl, hB3, by omega, by omega, fun H4 y hC4 hB4 y0 y1 => ?_⟩⟩
            exact ⟨_, _, rfl, x, y, rfl, hC3.trans hC4, hB4, y0, y1⟩
          · rintro σ' H3 ⟨wy, at_, rfl, hC3', hB3, a0, a1⟩
            have hC3 := hC2.trans hC3'
            have tp := tp2.chg hC3'
            have hx3 := tp.at_
            obtain ⟨ob, hb⟩ : ∃ o, H3 b = some o := by obtain ⟨n, m, k, l, cs, hb, _⟩ := hB3; exact ⟨_, hb⟩
            have fin : ∀ H' p zs, Chg b H3 H' → Tp b H' (3 + m) (CB m) p zs → zs.length ≤ 12 → Bag H' b → Q (.ref p) H' := fun H' p zs c t hz B => q _ _ (hC3.trans c) B (t.all.mono (by omega) (CB_fit hz))
            have cl : ∀ lo hi, (cutV xs lo hi).length ≤ 4 := fun lo hi => Nat.le_trans (cutV_length _ _ _) hl
            -- way == 0
            refine ⟨_, rfl, rfl, _, rfl, ite2 (fun e => ?_) (fun _ => ?_)⟩
            · exact ⟨.ref a, rfl, a, xs, rfl, .inr (.inl (.inl hx3)), fun l nl => q _ _ (hC3.trans (Chg.new nl)) (hB3.same (new_same nl)) ((Pv.lst_new hb nl tp.its).mono (by omega) (CB_fit (by omega)))⟩
            -- way == 1
            refine ⟨_, rfl, rfl, _, rfl, ite2 (fun e => ?_) (fun _ => ?_)⟩
            · refine ⟨.ref a, rfl, _, rfl, at_, rfl, a, xs, ob, rfl, hb, tp, fun H4 p4 s4 t4 => ⟨.ref a, rfl, _, rfl, at_, 1, rfl, rfl, _, rfl, a, xs, ob, rfl, s4 _ _ hb, tp.chg (Chg.same s4), fun H5 p5 s5 t5 => ?_⟩⟩
              refine ⟨p4, p5, _, _, ob, rfl, rfl, s5 _ _ (s4 _ _ hb), t4.chg (Chg.same s5), t5, ?_, fun H6 p6 s6 t6 => fin H6 p6 _ (Chg.same ((s4.trans s5).trans s6)) t6 ?_ (hB3.same ((s4.trans s5).trans s6))⟩
              · have := cl none (some at_); have := cl (some (at_ + 1)) none; omega
              · rw [List.length_append]; have := cl none (some at_); have := cl (some (at_ + 1)) none; omega
            -- way == 2
            refine ⟨_, rfl, rfl, _, rfl, ite2 (fun e => ?_) (fun _ => ?_)⟩
            · refine ⟨.ref a, rfl, _, rfl, at_, rfl, a, xs, ob, rfl, hb, tp, fun H4 p4 s4 t4 => ⟨.ref b, rfl, b, rfl, hB3.same s4, fun H5 x hC5 hB5 lox pvx => ⟨by show 1 ≤ sizeLine; decide, fun p5 n5 => ?_⟩⟩⟩
              obtain ⟨ob5, hb5⟩ : ∃ o, H5 b = some o := by obtain ⟨n, m, k, l, cs, hb, _⟩ := hB5; exact ⟨_, hb⟩
              have t5 : Tp b (upd H5 p5 (.tup [x])) (3 + m) (CB m) p5 [x] := Tp.new hb5 n5 (all_cons (pvx.mono (by omega) big') fun v hv => by cases hv)
              have c5 : Chg b H3 (upd H5 p5 (.tup [x])) := ((Chg.same s4).trans hC5).trans (Chg.new n5)
              refine ⟨p4, p5, _, _, ob5, rfl, rfl, new_ne hb5 n5, t4.chg (hC5.trans (Chg.new n5)), t5, ?_, fun H6 p6 s6 t6 => ?_⟩
              · have := cl none (some at_); show _ + 1 ≤ _; omega
              refine ⟨.ref a, rfl, _, rfl, at_, rfl, a, xs, ob5, rfl, s6 _ _ (new_ne hb5 n5), tp.chg (c5.trans (Chg.same s6)), fun H7 p7 s7 t7 => ?_⟩
              refine ⟨p6, p7, _, _, ob5, rfl, rfl, s7 _ _ (s6 _ _ (new_ne hb5 n5)), t6.chg (Chg.same s7), t7, ?_, fun H8 p8 s8 t8 => fin H8 p8 _ (c5.trans (Chg.same ((s6.trans s7).trans s8))) t8 ?_ (hB5.same (((new_same n5).trans s6).trans (s7.trans s8)))⟩
              · rw [List.length_append]; have := cl none (some at_); have := cl (some at_) none; show _ + 1 + _ ≤ _; omega
              · rw [List.length_append, List.length_append]; have := cl none (some at_); have := cl (some at_) none; show _ + 1 + _ ≤ _; omega
            -- way == 3
            refine ⟨_, rfl, rfl, _, rfl, ite2 (fun e => ?_) (fun _ => ?_)⟩
            · exact ⟨_, rfl, .inr ⟨a, xs, rfl, .inl (.inl hx3), fun p ys np hy hl' => fin _ p ys (Chg.new np) (Tp.new hb np fun v hv => tp.its v (hy v hv)) (by omega) (hB3.same (new_same np))⟩⟩
            -- way == 4
            refine ⟨_, rfl, rfl, _, rfl, ite2 (fun e => ?_) (fun _ => ?_)⟩
            · refine ⟨.ref a, rfl, _, rfl, at_, rfl, a, xs, ob, rfl, hb, tp, fun H4 p4 s4 t4 => ⟨.ref a, rfl, _, rfl, at_, rfl, _, rfl, at_, 1, rfl, rfl, _, rfl, a, xs, ob, rfl, s4 _ _ hb, tp.chg (Chg.same s4), fun H5 p5 s5 t5 => ?_⟩⟩
              refine ⟨p4, p5, _, _, ob, rfl, rfl, s5 _ _ (s4 _ _ hb), t4.chg (Chg.same s5), t5, ?_, fun H6 p6 s6 t6 => ?_⟩
              · have := cl none (some at_); have := cl (some at_) (some (at_ + 1)); omega
              have s36 := (s4.trans s5).trans s6
              refine ⟨.ref a, rfl, _, rfl, at_, rfl, a, xs, ob, rfl, s36 _ _ hb, tp.chg (Chg.same s36), fun H7 p7 s7 t7 => ?_⟩
              refine ⟨p6, p7, _, _, ob, rfl, rfl, s7 _ _ (s36 _ _ hb), t6.chg (Chg.same s7), t7, ?_, fun H8 p8 s8 t8 => fin H8 p8 _ (Chg.same (s36.trans (s7.trans s8))) t8 ?_ (hB3.same (s36.trans (s7.trans s8)))⟩
              · rw [List.length_append]; have := cl none (some at_); have := cl (some at_) (some (at_ + 1)); have := cl (some at_) none; omega
              · rw [List.length_append, List.length_append]; have := cl none (some at_); have := cl (some at_) (some (at_ + 1)); have := cl (some at_) none; omega
            -- the last way
            refine ⟨.ref a, rfl, _, rfl, at_, rfl, a, xs, ob, rfl, hb, tp, fun H4 p4 s4 t4 => ?_⟩
            have hi : at_.toNat < xs.length := by omega
            have hat : atI xs at_ = some xs[at_.toNat] := by
              have e : ((at_.toNat : Nat) : Int) = at_ := by omega
              have z := atI_nat (j := at_.toNat) (List.getElem?_eq_getElem hi)
              rw [e] at z
              exact z
            have c4 : Chg b H2 H4 := hC3'.trans (Chg.same s4)
            refine ⟨.ref b, rfl, .ref a, rfl, _, rfl, a, xs, at_, xs[at_.toNat], rfl, rfl, .inl (.inl (s4 _ _ hx3)), hat, _, rfl, _, 1, rfl, rfl, b, xs[at_.toNat], ?_, hB3.same s4, (hlo _ (List.getElem_mem hi)).chg c4, (its _ (List.getElem_mem hi)).chg c4, fun H5 x hC5 hB5 pvx => ⟨by show 1 ≤ sizeLine; decide, fun p5 n5 => ?_⟩⟩
            · show [V.ref b, xs[at_.toNat], V.int (((m + 1 : Nat) : Int) - 1)] ++ [] = _
              rw [List.append_nil, show (((m + 1 : Nat) : Int) - 1) = ((m : Nat) : Int) by omega]
            obtain ⟨ob5, hb5⟩ : ∃ o, H5 b = some o := by obtain ⟨n, m, k, l, cs, hb, _⟩ := hB5; exact ⟨_, hb⟩
            have t5 : Tp b (upd H5 p5 (.tup [x])) (3 + m) (CB m) p5 [x] := Tp.new hb5 n5 (all_cons pvx fun v hv => by cases hv)
            have c5 : Chg b H3 (upd H5 p5 (.tup [x])) := ((Chg.same s4).trans hC5).trans (Chg.new n5)
            refine ⟨p4, p5, _, _, ob5, rfl, rfl, new_ne hb5 n5, t4.chg (hC5.trans (Chg.new n5)), t5, ?_, fun H6 p6 s6 t6 => ?_⟩
            · have := cl none (some at_); show _ + 1 ≤ _; omega
            refine ⟨.ref a, rfl, _, rfl, at_, 1, rfl, rfl, _, rfl, a, xs, ob5, rfl, s6 _ _ (new_ne hb5 n5), tp.chg (c5.trans (Chg.same s6)), fun H7 p7 s7 t7 => ?_⟩
            refine ⟨p6, p7, _, _, ob5, rfl, rfl, s7 _ _ (s6 _ _ (new_ne hb5 n5)), t6.chg (Chg.same s7), t7, ?_, fun H8 p8 s8 t8 => fin H8 p8 _ (c5.trans (Chg.same ((s6.trans s7).trans s8))) t8 ?_ (hB5.same (((new_same n5).trans s6).trans (s7.trans s8)))⟩
            · rw [List.length_append]; have := cl none (some at_); have := cl (some (at_ + 1)) none; show _ + 1 + _ ≤ _; omega
            · rw [List.length_append, List.length_append]; have := cl none (some at_); have := cl (some (at_ + 1)) none; show _ + 1 + _ ≤ _; omega
end
end V0
/-! The errors: their classes, how they are made, what they keep. -/
namespace V0
open PySem PySem.Spec PyProof.Rows L2
/-- an error with a dict of its own -/
def ErD (H : Hp) (e C : Addr) (fs : List (PySem.Str × V)) : Prop := ∃ d, H e = some (exo e C (some d)) ∧ H d = some (exd d fs)
theorem ErD.er {H : Hp} {e C : Addr} {fs : List (PySem.Str × V)} (r : ErD H e C fs) : Er H e C fs := .inl r
theorem ErD.keep {H H' : Hp} {e C : Addr} {fs : List (PySem.Str × V)} (r : ErD H e C fs) (k : Same H H') : ErD H' e C fs := by
  obtain ⟨d, h1, h2⟩ := r
  exact ⟨d, k _ _ h1, k _ _ h2⟩
/-- an error without one -/
def Er0 (H : Hp) (e C : Addr) : Prop := H e = some (ExO (.ref C) e)
theorem Er0.er {H : Hp} {e C : Addr} (r : Er0 H e C) : Er H e C [] := .inr ⟨r, rfl⟩

theorem scWrong : FnScope ["self", "place"] ["self", "place"] (defScope (inClass (topS 2) 0)) := ⟨rfl, rfl, rfl, by decide +kernel, rfl, by decide +kernel, by decide +kernel⟩
theorem scNoRange : FnScope ["self", "place"] ["self", "place"] (defScope (inClass (topS 4) 0)) := ⟨rfl, rfl, rfl, by decide +kernel, rfl, by decide +kernel, by decide +kernel⟩
theorem scNoText : FnScope ["self", "line"] ["self", "line"] (defScope (inClass (topS 5) 0)) := ⟨rfl, rfl, rfl, by decide +kernel, rfl, by decide +kernel, by decide +kernel⟩
theorem scTooMany : FnScope ["self", "most"] ["self", "most"] (defScope (inClass (topS 8) 0)) := ⟨rfl, rfl, rfl, by decide +kernel, rfl, by decide +kernel, by decide +kernel⟩
theorem scNotThere : FnScope ["self", "name"] ["self", "name"] (defScope (inClass (topS 9) 0)) := ⟨rfl, rfl, rfl, by decide +kernel, rfl, by decide +kernel, by decide +kernel⟩
theorem scNoGeneration : FnScope ["self", "number"] ["self", "number"] (defScope (inClass (topS 11) 0)) := ⟨rfl, rfl, rfl, by decide +kernel, rfl, by decide +kernel, by decide +kernel⟩
theorem scDoubled : FnScope ["self", "name", "version"] ["self", "name", "version"] (defScope (inClass (topS 6) 0)) := ⟨rfl, rfl, rfl, by decide +kernel, rfl, by decide +kernel, by decide +kernel⟩
theorem scNoPack : FnScope ["self", "name", "version"] ["self", "name", "version"] (defScope (inClass (topS 7) 0)) := ⟨rfl, rfl, rfl, by decide +kernel, rfl, by decide +kernel, by decide +kernel⟩
section
variable {P : Program} {w : World} {K : PySem.W.Frag} {mg : PySem.Str → Option Value} {base : Heap}
/-- __init__ of one field -/
def spInit1 (C : Addr) (f : PySem.Str) : Sp := fun vs H Q _ => ∃ (a : Addr) (v : V), vs = [.ref a, v] ∧ H a = some (exo a C none) ∧ ∀ H', (∀ x o, x ≠ a → H x = some o → H' x = some o) → ErD H' a C [(f, v)] → Q .non H'
/-- __init__ of two fields -/
def spInit2 (C : Addr) : Sp := fun vs H Q _ => ∃ (a : Addr) (v u : V), vs = [.ref a, v, u] ∧ H a = some (exo a C none) ∧ ∀ H', (∀ x o, x ≠ a → H x = some o → H' x = some o) → ErD H' a C [("version", u), ("name", v)] → Q .non H'
/-- what the written part says of a class of one field -/
structure Cls1 (K : PySem.W.Frag) (mg : PySem.Str → Option Value) (x q : PySem.Str) (f : PySem.Str) (st : Stmt) (C fI : Addr) (fd : FuncData) : Prop where
  g : mg x = some (.ref C)
  ox : OexC K C
  ec : ErC K C
  iC : PySem.W.findIn K (.ref C) "__init__" = some (some (.ref fI))
  tI : PySem.W.typeIn K (.ref fI) = some (.type "function")
  no : PySem.W.findIn K (.ref C) f = some none
  fn : Fun K "__init__" q st fI fd
  b : Binds K fd ["self", f] []
structure Cls2 (K : PySem.W.Frag) (mg : PySem.Str → Option Value) (x q : PySem.Str) (st : Stmt) (C fI : Addr) (fd : FuncData) : Prop where
  g : mg x = some (.ref C)
  ox : OexC K C
  ec : ErC K C
  iC : PySem.W.findIn K (.ref C) "__init__" = some (some (.ref fI))
  tI : PySem.W.typeIn K (.ref fI) = some (.type "function")
  no1 : PySem.W.findIn K (.ref C) "name" = some none
  no2 : PySem.W.findIn K (.ref C) "version" = some none
  fn : Fun K "__init__" q st fI fd
  b : Binds K fd ["self", "name", "version"] []
structure Cls0 (K : PySem.W.Frag) (mg : PySem.Str → Option Value) (x : PySem.Str) (C : Addr) : Prop where
  g : mg x = some (.ref C)
  ex : PySem.W.excIn K C [.type "ValueError", .type "Exception", .type "BaseException", .type "object"] "ValueError.__new__" = true
  kC : PySem.W.keepIn K (.ref C) = true
  ec : ErC K C
theorem init_end {H : Hp} {a C : Addr} {f : PySem.Str} {v : V} {d : Addr} (ha : H a = some (exo a C none)) (nd : H d = none) (ne : d ≠ a) :
    (∀ x o, x ≠ a → H x = some o → upd (upd H d (exd d [(f, v)])) a (exo a C (some d)) x = some o) ∧ ErD (upd (upd H d (exd d [(f, v)])) a (exo a C (some d))) a C [(f, v)] := by
  refine ⟨fun x o n e => ?_, d, upd_same, ?_⟩
  · rw [upd_ne n]
    exact new_ne e nd
  · rw [upd_ne ne]
    exact upd_same
theorem init_end2 {H : Hp} {a C : Addr} {f g : PySem.Str} {v u : V} {d : Addr} (ha : H a = some (exo a C none)) (nd : H d = none) (ne : d ≠ a) :
    (∀ x o, x ≠ a → H x = some o → upd (upd (upd H d (exd d [(f, v)])) a (exo a C (some d))) d (exd d [(g, u), (f, v)]) x = some o) ∧ ErD (upd (upd (upd H d (exd d [(f, v)])) a (exo a C (some d))) d (exd d [(g, u), (f, v)])) a C [(g, u), (f, v)] := by
  refine ⟨fun x o n e => ?_, d, ?_, upd_same⟩
  · rw [upd_ne (ne_of_none e nd), upd_ne n]
    exact new_ne e nd
  · rw [upd_ne ne.symm]
    exact upd_same

theorem init_Wrong {C fI : Addr} {fd : FuncData} {k : Nat} (F : Cls1 K mg "Wrong" "Wrong.__init__" "place" (inClass (topS 2) 0) C fI fd) : FnOk P w K mg base CX0 (k + 1) fI fd ["self", "place"] (spInit1 C "place") := by
  refine F.fn.ok scWrong (fun vs H Q E h => ?_) (fun cdv A outer s H vs Q E hr h => ?_)
  · obtain ⟨a, v, rfl, _⟩ := h
    rfl
  · obtain ⟨a, v, rfl, ha, q⟩ := h
    refine ⟨_, pss_one (ps_ost (pv 0) (pv 1)), ?_⟩
    refine ⟨v, rfl, .ref a, rfl, a, C, rfl, F.ox, F.no, .inl ⟨ha, fun d nd ne => ?_⟩⟩
    obtain ⟨z1, z2⟩ := init_end (f := "place") (v := v) ha nd ne
    exact q _ z1 z2
theorem init_NoRange {C fI : Addr} {fd : FuncData} {k : Nat} (F : Cls1 K mg "NoRange" "NoRange.__init__" "place" (inClass (topS 4) 0) C fI fd) : FnOk P w K mg base CX0 (k + 1) fI fd ["self", "place"] (spInit1 C "place") := by
  refine F.fn.ok scNoRange (fun vs H Q E h => ?_) (fun cdv A outer s H vs Q E hr h => ?_)
  · obtain ⟨a, v, rfl, _⟩ := h
    rfl
  · obtain ⟨a, v, rfl, ha, q⟩ := h
    refine ⟨_, pss_one (ps_ost (pv 0) (pv 1)), ?_⟩
    refine ⟨v, rfl, .ref a, rfl, a, C, rfl, F.ox, F.no, .inl ⟨ha, fun d nd ne => ?_⟩⟩
    obtain ⟨z1, z2⟩ := init_end (f := "place") (v := v) ha nd ne
    exact q _ z1 z2
theorem init_NoText {C fI : Addr} {fd : FuncData} {k : Nat} (F : Cls1 K mg "NoText" "NoText.__init__" "line" (inClass (topS 5) 0) C fI fd) : FnOk P w K mg base CX0 (k + 1) fI fd ["self", "line"] (spInit1 C "line") := by
  refine F.fn.ok scNoText (fun vs H Q E h => ?_) (fun cdv A outer s H vs Q E hr h => ?_)
  · obtain ⟨a, v, rfl, _⟩ := h
    rfl
  · obtain ⟨a, v, rfl, ha, q⟩ := h
    refine ⟨_, pss_one (ps_ost (pv 0) (pv 1)), ?_⟩
    refine ⟨v, rfl, .ref a, rfl, a, C, rfl, F.ox, F.no, .inl ⟨ha, fun d nd ne => ?_⟩⟩
    obtain ⟨z1, z2⟩ := init_end (f := "line") (v := v) ha nd ne
    exact q _ z1 z2
theorem init_TooMany {C fI : Addr} {fd : FuncData} {k : Nat} (F : Cls1 K mg "TooMany" "TooMany.__init__" "most" (inClass (topS 8) 0) C fI fd) : FnOk P w K mg base CX0 (k + 1) fI fd ["self", "most"] (spInit1 C "most") := by
  refine F.fn.ok scTooMany (fun vs H Q E h => ?_) (fun cdv A outer s H vs Q E hr h => ?_)
  · obtain ⟨a, v, rfl, _⟩ := h
    rfl
  · obtain ⟨a, v, rfl, ha, q⟩ := h
    refine ⟨_, pss_one (ps_ost (pv 0) (pv 1)), ?_⟩
    refine ⟨v, rfl, .ref a, rfl, a, C, rfl, F.ox, F.no, .inl ⟨ha, fun d nd ne => ?_⟩⟩
    obtain ⟨z1, z2⟩ := init_end (f := "most") (v := v) ha nd ne
    exact q _ z1 z2
theorem init_NotThere {C fI : Addr} {fd : FuncData} {k : Nat} (F : Cls1 K mg "NotThere" "NotThere.__init__" "name" (inClass (topS 9) 0) C fI fd) : FnOk P w K mg base CX0 (k + 1) fI fd ["self", "name"] (spInit1 C "name") := by
  refine F.fn.ok scNotThere (fun vs H Q E h => ?_) (fun cdv A outer s H vs Q E hr h => ?_)
  · obtain ⟨a, v, rfl, _⟩ := h
    rfl
  · obtain ⟨a, v, rfl, ha, q⟩ := h
    refine ⟨_, pss_one (ps_ost (pv 0) (pv 1)), ?_⟩
    refine ⟨v, rfl, .ref a, rfl, a, C, rfl, F.ox, F.no, .inl ⟨ha, fun d nd ne => ?_⟩⟩
    obtain ⟨z1, z2⟩ := init_end (f := "name") (v := v) ha nd ne
    exact q _ z1 z2
theorem init_NoGeneration {C fI : Addr} {fd : FuncData} {k : Nat} (F : Cls1 K mg "NoGeneration" "NoGeneration.__init__" "number" (inClass (topS 11) 0) C fI fd) : FnOk P w K mg base CX0 (k + 1) fI fd ["self", "number"] (spInit1 C "number") := by
  refine F.fn.ok scNoGeneration (fun vs H Q E h => ?_) (fun cdv A outer s H vs Q E hr h => ?_)
  · obtain ⟨a, v, rfl, _⟩ := h
    rfl
  · obtain ⟨a, v, rfl, ha, q⟩ := h
    refine ⟨_, pss_one (ps_ost (pv 0) (pv 1)), ?_⟩
    refine ⟨v, rfl, .ref a, rfl, a, C, rfl, F.ox, F.no, .inl ⟨ha, fun d nd ne => ?_⟩⟩
    obtain ⟨z1, z2⟩ := init_end (f := "number") (v := v) ha nd ne
    exact q _ z1 z2
theorem init_Doubled {C fI : Addr} {fd : FuncData} {k : Nat} (F : Cls2 K mg "Doubled" "Doubled.__init__" (inClass (topS 6) 0) C fI fd) : FnOk P w K mg base CX0 (k + 1) fI fd ["self", "name", "version"] (spInit2 C) := by
  refine F.fn.ok scDoubled (fun vs H Q E h => ?_) (fun cdv A outer s H vs Q E hr h => ?_)
  · obtain ⟨a, v, u, rfl, _⟩ := h
    rfl
  · obtain ⟨a, v, u, rfl, ha, q⟩ := h
    refine ⟨_, pss_cons (ps_ost (pv 0) (pv 1)) (pss_one (ps_ost (pv 0) (pv 2))), ?_⟩
    refine ⟨v, rfl, .ref a, rfl, a, C, rfl, F.ox, F.no1, .inl ⟨ha, fun d nd ne => ?_⟩⟩
    refine ⟨u, rfl, .ref a, rfl, a, C, rfl, F.ox, F.no2, .inr ⟨d, [("name", v)], upd_same, ?_, (by show 1 ≤ 900; decide), ?_⟩⟩
    · rw [upd_ne ne]
      exact upd_same
    · obtain ⟨z1, z2⟩ := init_end2 (f := "name") (g := "version") (v := v) (u := u) ha nd ne
      exact q _ z1 z2
theorem init_NoPack {C fI : Addr} {fd : FuncData} {k : Nat} (F : Cls2 K mg "NoPack" "NoPack.__init__" (inClass (topS 7) 0) C fI fd) : FnOk P w K mg base CX0 (k + 1) fI fd ["self", "name", "version"] (spInit2 C) := by
  refine F.fn.ok scNoPack (fun vs H Q E h => ?_) (fun cdv A outer s H vs Q E hr h => ?_)
  · obtain ⟨a, v, u, rfl, _⟩ := h
    rfl
  · obtain ⟨a, v, u, rfl, ha, q⟩ := h
    refine ⟨_, pss_cons (ps_ost (pv 0) (pv 1)) (pss_one (ps_ost (pv 0) (pv 2))), ?_⟩
    refine ⟨v, rfl, .ref a, rfl, a, C, rfl, F.ox, F.no1, .inl ⟨ha, fun d nd ne => ?_⟩⟩
    refine ⟨u, rfl, .ref a, rfl, a, C, rfl, F.ox, F.no2, .inr ⟨d, [("name", v)], upd_same, ?_, (by show 1 ≤ 900; decide), ?_⟩⟩
    · rw [upd_ne ne]
      exact upd_same
    · obtain ⟨z1, z2⟩ := init_end2 (f := "name") (g := "version") (v := v) (u := u) ha nd ne
      exact q _ z1 z2
end
end V0
/-! All errors made of two values. -/
namespace V0
open PySem PySem.Spec PyProof.Rows L2
section
variable {X : Cx} {k : Nat} {x q y z : PySem.Str} {f : PySem.Str} {st : Stmt} {C fI : Addr} {fd : FuncData} {p py pz pos : Pos} {i j : Nat}
theorem pe_mk1 (F : Cls1 X.K X.mg x q f st C fI fd) (FI : FnOk X.prog X.w X.K X.mg X.base CX0 k fI fd ["self", f] (spInit1 C f)) (hr : Room (k + 1) X.A) (hg : Gl X x) (hv : PE X (.Name y py) (tVar i)) (hdb : (x == ("__debug__" : PySem.Str)) = false := by decide) :
    PE X (.Call (.Name x p) [.Name y py] [] pos) (fun σ H Q => ∃ v, σ[i]? = some (some v) ∧ ∀ H' a, Same H H' → ErD H' a C [(f, v)] → Q (.ref a) H') := by
  constructor
  intro pins s σ H Q I ⟨v, hv', k'⟩
  refine (pe_oexV F.ox F.iC F.tI FI hr F.b hg F.g (pa_cons hv pa_nil) hdb (by rfl) (by rfl)).run pins s σ H Q I ?_
  refine ⟨v, hv', by show 1 ≤ 1000; decide, fun a na => ⟨a, v, rfl, upd_same, fun H' kp e => ⟨rfl, k' H' a (fun b o h => kp b o (ne_of_none h na) (new_ne h na)) e⟩⟩⟩
theorem pe_mk2 (F : Cls2 X.K X.mg x q st C fI fd) (FI : FnOk X.prog X.w X.K X.mg X.base CX0 k fI fd ["self", "name", "version"] (spInit2 C)) (hr : Room (k + 1) X.A) (hg : Gl X x) (hv : PE X (.Name y py) (tVar i)) (hu : PE X (.Name z pz) (tVar j)) (hdb : (x == ("__debug__" : PySem.Str)) = false := by decide) :
    PE X (.Call (.Name x p) [.Name y py, .Name z pz] [] pos) (fun σ H Q => ∃ v u, σ[i]? = some (some v) ∧ σ[j]? = some (some u) ∧ ∀ H' a, Same H H' → ErD H' a C [("version", u), ("name", v)] → Q (.ref a) H') := by
  constructor
  intro pins s σ H Q I ⟨v, u, hv', hu', k'⟩
  refine (pe_oexV F.ox F.iC F.tI FI hr F.b hg F.g (pa_cons hv (pa_cons hu pa_nil)) hdb (by rfl) (by rfl)).run pins s σ H Q I ?_
  refine ⟨v, hv', u, hu', by show 2 ≤ 1000; decide, fun a na => ⟨a, v, u, rfl, upd_same, fun H' kp e => ⟨rfl, k' H' a (fun b o h => kp b o (ne_of_none h na) (new_ne h na)) e⟩⟩⟩
theorem pe_mk0 (FC : Cls0 X.K X.mg x C) (hg : Gl X x) (hdb : (x == ("__debug__" : PySem.Str)) = false := by decide) :
    PE X (.Call (.Name x p) [] [] pos) (fun _ H Q => ∀ H' a, Same H H' → Er0 H' a C → Q (.ref a) H') := by
  constructor
  intro pins s σ H Q I k'
  refine (pe_exc0 F.excBase_ValueError FC.ex FC.g FC.kC hg hdb).run pins s σ H Q I ?_
  exact fun a na => k' _ a (new_same na) upd_same
end

/-- all classes of errors -/
structure Errs (K : PySem.W.Frag) (mg : PySem.Str → Option Value) (C I : Nat → Addr) (D : Nat → FuncData) (CP : Addr) : Prop where
  e0 : Cls1 K mg "Wrong" "Wrong.__init__" "place" (inClass (topS 2) 0) (C 0) (I 0) (D 0)
  e1 : Cls1 K mg "NoRange" "NoRange.__init__" "place" (inClass (topS 4) 0) (C 1) (I 1) (D 1)
  e2 : Cls1 K mg "NoText" "NoText.__init__" "line" (inClass (topS 5) 0) (C 2) (I 2) (D 2)
  e3 : Cls1 K mg "TooMany" "TooMany.__init__" "most" (inClass (topS 8) 0) (C 3) (I 3) (D 3)
  e4 : Cls1 K mg "NotThere" "NotThere.__init__" "name" (inClass (topS 9) 0) (C 4) (I 4) (D 4)
  e5 : Cls1 K mg "NoGeneration" "NoGeneration.__init__" "number" (inClass (topS 11) 0) (C 5) (I 5) (D 5)
  e6 : Cls2 K mg "Doubled" "Doubled.__init__" (inClass (topS 6) 0) (C 6) (I 6) (D 6)
  e7 : Cls2 K mg "NoPack" "NoPack.__init__" (inClass (topS 7) 0) (C 7) (I 7) (D 7)
  e8 : Cls0 K mg "NoVersion" (C 8)
  e9 : Cls0 K mg "PowerCut" (C 9)
  e10 : Cls0 K mg "NoCommand" (C 10)
  kit : ∀ i j, i < 11 → j < 11 → PySem.W.kitOne K (.ref (C i)) (.ref (C j)) = some (decide (i = j))
  gP : mg "PackError" = some (.ref CP)
  kitP : ∀ i, i < 11 → PySem.W.kitOne K (.ref (C i)) (.ref CP) = some true
  kitV : ∀ i, i < 11 → PySem.W.kitOne K (.ref (C i)) (.type "ValueError") = some true
theorem Errs.ec {K : PySem.W.Frag} {mg : PySem.Str → Option Value} {C I : Nat → Addr} {D : Nat → FuncData} {CP : Addr} (T : Errs K mg C I D CP) : ∀ i, i < 11 → ErC K (C i)
  | 0, _ => T.e0.ec
  | 1, _ => T.e1.ec
  | 2, _ => T.e2.ec
  | 3, _ => T.e3.ec
  | 4, _ => T.e4.ec
  | 5, _ => T.e5.ec
  | 6, _ => T.e6.ec
  | 7, _ => T.e7.ec
  | 8, _ => T.e8.ec
  | 9, _ => T.e9.ec
  | 10, _ => T.e10.ec
  | n + 11, h => absurd h (by omega)
/-- errors of all classes, made of two values -/
structure EA (C : Nat → Addr) (one other : V) (H : Hp) (e : Nat → Addr) : Prop where
  z0 : ErD H (e 0) (C 0) [("place", one)]
  z1 : ErD H (e 1) (C 1) [("place", other)]
  z2 : ErD H (e 2) (C 2) [("line", one)]
  z3 : ErD H (e 3) (C 3) [("most", other)]
  z4 : ErD H (e 4) (C 4) [("name", one)]
  z5 : ErD H (e 5) (C 5) [("number", other)]
  z6 : ErD H (e 6) (C 6) [("version", other), ("name", one)]
  z7 : ErD H (e 7) (C 7) [("version", one), ("name", other)]
  z8 : Er0 H (e 8) (C 8)
  z9 : Er0 H (e 9) (C 9)
  z10 : Er0 H (e 10) (C 10)
section
variable {C : Nat → Addr} {one other : V} {H H' : Hp} {e : Nat → Addr}
theorem EA.er (E : EA C one other H e) : ∀ i, i < 11 → ∃ fs, Er H (e i) (C i) fs
  | 0, _ => ⟨_, E.z0.er⟩
  | 1, _ => ⟨_, E.z1.er⟩
  | 2, _ => ⟨_, E.z2.er⟩
  | 3, _ => ⟨_, E.z3.er⟩
  | 4, _ => ⟨_, E.z4.er⟩
  | 5, _ => ⟨_, E.z5.er⟩
  | 6, _ => ⟨_, E.z6.er⟩
  | 7, _ => ⟨_, E.z7.er⟩
  | 8, _ => ⟨_, E.z8.er⟩
  | 9, _ => ⟨_, E.z9.er⟩
  | 10, _ => ⟨_, E.z10.er⟩
  | n + 11, h => absurd h (by omega)
/-- what lists and dicts can't change -/
def Kp (H H' : Hp) : Prop := ∀ a o, H a = some o → (∀ xs, o ≠ .lst xs) → (∀ ks, o ≠ .dK ks) → H' a = some o
theorem Kp.same (k : Same H H') : Kp H H' := fun a o h _ _ => k a o h
theorem ErD.kp {a C : Addr} {fs : List (PySem.Str × V)} (r : ErD H a C fs) (k : Kp H H') : ErD H' a C fs := by
  obtain ⟨d, h1, h2⟩ := r
  exact ⟨d, k _ _ h1 (fun _ z => nomatch z) (fun _ z => nomatch z), k _ _ h2 (fun _ z => nomatch z) (fun _ z => nomatch z)⟩
theorem Er0.kp {a C : Addr} (r : Er0 H a C) (k : Kp H H') : Er0 H' a C := k _ _ r (fun _ z => nomatch z) (fun _ z => nomatch z)
theorem EA.kp (E : EA C one other H e) (k : Kp H H') : EA C one other H' e :=
  ⟨E.z0.kp k, E.z1.kp k, E.z2.kp k, E.z3.kp k, E.z4.kp k, E.z5.kp k, E.z6.kp k, E.z7.kp k, E.z8.kp k, E.z9.kp k, E.z10.kp k⟩
end
abbrev refs (e : Nat → Addr) : List V := [.ref (e 0), .ref (e 1), .ref (e 2), .ref (e 3), .ref (e 4), .ref (e 5), .ref (e 6), .ref (e 7), .ref (e 8), .ref (e 9), .ref (e 10)]
abbrev sBuilt : Stmt := topS 20
theorem scBuilt : FnScope ["one", "other", "found"] ["one", "other"] (defScope sBuilt) := ⟨rfl, rfl, rfl, by decide +kernel, rfl, by decide +kernel, by decide +kernel⟩
section
variable {P : Program} {w : World} {K : PySem.W.Frag} {mg : PySem.Str → Option Value} {base : Heap}
def spBuilt (C : Nat → Addr) : Sp := fun vs H Q _ => ∃ one other, vs = [one, other] ∧ ∀ H' p e, Same H H' → H p = none → H' p = some (.lst (refs e)) → EA C one other H' e → Q (.ref p) H'
theorem same_none {H H' : Hp} {p : Addr} (s : Same H H') (n : H' p = none) : H p = none := by
  cases z : H p with
  | none => rfl
  | some o => rw [s p o z] at n; cases n
theorem ok_built {f : Addr} {fd : FuncData} {k : Nat} {C I : Nat → Addr} {D : Nat → FuncData} {CP : Addr} (F : Fun K "_law_built" "_law_built" sBuilt f fd) (T : Errs K mg C I D CP) : FnOk P w K mg base CX0 (k + 3) f fd ["one", "other"] (spBuilt C) := by
  refine F.ok scBuilt (fun vs H Q E h => ?_) (fun cdv A outer s H vs Q E hr h => ?_)
  · obtain ⟨one, other, rfl, _⟩ := h
    rfl
  · obtain ⟨one, other, rfl, q⟩ := h
    refine ⟨_, pss_cons (ps_set (i := 2) scBuilt.nd rfl (.inl rfl) (pe_lst (pa_cons (pe_mk1 T.e0 (init_Wrong (k := k) T.e0) hr (by rfl) (pv 0)) (pa_cons (pe_mk1 T.e1 (init_NoRange (k := k) T.e1) hr (by rfl) (pv 1)) (pa_cons (pe_mk1 T.e2 (init_NoText (k := k) T.e2) hr (by rfl) (pv 0)) (pa_cons (pe_mk1 T.e3 (init_TooMany (k := k) T.e3) hr (by rfl) (pv 1)) (pa_cons (pe_mk1 T.e4 (init_NotThere (k := k) T.e4) hr (by rfl) (pv 0)) (pa_cons (pe_mk1 T.e5 (init_NoGeneration (k := k) T.e5) hr (by rfl) (pv 1)) pa_nil)))))))) (pss_one (ps_ret (pe_op op_cat (pv 2) (pe_lst (pa_cons (pe_mk2 T.e6 (init_Doubled (k := k) T.e6) hr (by rfl) (pv 0) (pv 1)) (pa_cons (pe_mk2 T.e7 (init_NoPack (k := k) T.e7) hr (by rfl) (pv 1) (pv 0)) (pa_cons (pe_mk0 T.e8 (by rfl)) (pa_cons (pe_mk0 T.e9 (by rfl)) (pa_cons (pe_mk0 T.e10 (by rfl)) pa_nil))))))))), ?_⟩
    refine ⟨one, rfl, fun H0 e0 s0 z0 => ?_⟩
    refine ⟨other, rfl, fun H1 e1 s1 z1 => ?_⟩
    refine ⟨one, rfl, fun H2 e2 s2 z2 => ?_⟩
    refine ⟨other, rfl, fun H3 e3 s3 z3 => ?_⟩
    refine ⟨one, rfl, fun H4 e4 s4 z4 => ?_⟩
    refine ⟨other, rfl, fun H5 e5 s5 z5 => ?_⟩
    refine ⟨by show 6 ≤ sizeLine; decide, fun p np => ⟨.ref p, rfl, ?_⟩⟩
    refine ⟨one, other, rfl, rfl, fun H6 e6 s6 z6 => ?_⟩
    refine ⟨other, one, rfl, rfl, fun H7 e7 s7 z7 => ?_⟩
    refine fun H8 e8 s8 z8 => ?_
    refine fun H9 e9 s9 z9 => ?_
    refine fun H10 e10 s10 z10 => ?_
    refine ⟨by show 5 ≤ sizeLine; decide, fun r nr => ⟨p, r, [.ref e0, .ref e1, .ref e2, .ref e3, .ref e4, .ref e5], _, rfl, rfl, ?_, upd_same, by show 11 ≤ sizeLine; decide, fun m nm => ?_⟩⟩
    · exact new_ne (s10 _ _ (s9 _ _ (s8 _ _ (s7 _ _ (s6 _ _ upd_same))))) nr
    have hm : upd (upd H10 r (.lst [.ref e6, .ref e7, .ref e8, .ref e9, .ref e10])) m (.lst ([.ref e0, .ref e1, .ref e2, .ref e3, .ref e4, .ref e5] ++ [.ref e6, .ref e7, .ref e8, .ref e9, .ref e10])) m = some (.lst (refs fun i => [e0, e1, e2, e3, e4, e5, e6, e7, e8, e9, e10].getD i 0)) := upd_same
    have S10m : Same H10 (upd (upd H10 r (.lst [.ref e6, .ref e7, .ref e8, .ref e9, .ref e10])) m (.lst ([.ref e0, .ref e1, .ref e2, .ref e3, .ref e4, .ref e5] ++ [.ref e6, .ref e7, .ref e8, .ref e9, .ref e10]))) := (new_same nr).trans (new_same nm)
    have nm10 : H10 m = none := same_none (new_same nr) nm
    generalize upd (upd H10 r (.lst [.ref e6, .ref e7, .ref e8, .ref e9, .ref e10])) m (.lst ([.ref e0, .ref e1, .ref e2, .ref e3, .ref e4, .ref e5] ++ [.ref e6, .ref e7, .ref e8, .ref e9, .ref e10])) = HF at hm S10m ⊢
    have t10 : Kp H10 HF := Kp.same S10m
    have t9 : Kp H9 HF := fun a o h h1 h2 => t10 a o (s10 a o h) h1 h2
    have t8 : Kp H8 HF := fun a o h h1 h2 => t9 a o (s9 a o h) h1 h2
    have t7 : Kp H7 HF := fun a o h h1 h2 => t8 a o (s8 a o h) h1 h2
    have t6 : Kp H6 HF := fun a o h h1 h2 => t7 a o (s7 a o h) h1 h2
    have t5 : Kp H5 HF := fun a o h h1 h2 => t6 a o (s6 a o (new_ne h np)) h1 h2
    have t4 : Kp H4 HF := fun a o h h1 h2 => t5 a o (s5 a o h) h1 h2
    have t3 : Kp H3 HF := fun a o h h1 h2 => t4 a o (s4 a o h) h1 h2
    have t2 : Kp H2 HF := fun a o h h1 h2 => t3 a o (s3 a o h) h1 h2
    have t1 : Kp H1 HF := fun a o h h1 h2 => t2 a o (s2 a o h) h1 h2
    have t0 : Kp H0 HF := fun a o h h1 h2 => t1 a o (s1 a o h) h1 h2
    have S5 : Same H H5 := s0.trans (s1.trans (s2.trans (s3.trans (s4.trans s5))))
    have S10 := s6.trans (s7.trans (s8.trans (s9.trans s10)))
    have S : Same H H10 := S5.trans ((new_same np).trans S10)
    exact q HF m (fun i => [e0, e1, e2, e3, e4, e5, e6, e7, e8, e9, e10].getD i 0) (S.trans S10m) (same_none S nm10) hm ⟨z0.kp t0, z1.kp t1, z2.kp t2, z3.kp t3, z4.kp t4, z5.kp t5, z6.kp t6, z7.kp t7, z8.kp t8, z9.kp t9, z10.kp t10⟩
end
end V0
/-! Of which classes an error is. -/
namespace V0
open PySem PySem.Spec PyProof.Rows L2
abbrev sKinds : Stmt := topS 21
theorem scKinds : FnScope ["error", "found"] ["error"] (defScope sKinds) := ⟨rfl, rfl, rfl, by decide +kernel, rfl, by decide +kernel, by decide +kernel⟩
/-- the answers for the i-th class -/
def kinds (i : Nat) : List V := (List.range 11).map fun j => .bl (decide (j = i))
section
variable {P : Program} {w : World} {K : PySem.W.Frag} {mg : PySem.Str → Option Value} {base : Heap}
def spKinds (C : Nat → Addr) : Sp := fun vs H Q _ => ∃ a i fs, vs = [.ref a] ∧ i < 11 ∧ Er H a (C i) fs ∧ ∀ H' p, Same H H' → H p = none → H' p = some (.lst (kinds i)) → Q (.ref p) H'
theorem ok_kinds {f : Addr} {fd : FuncData} {k : Nat} {C I : Nat → Addr} {D : Nat → FuncData} {CP : Addr} (F : Fun K "_law_kinds" "_law_kinds" sKinds f fd) (T : Errs K mg C I D CP) (mS : mg "isinstance" = none) : FnOk P w K mg base CX0 (k + 1) f fd ["error"] (spKinds C) := by
  refine F.ok scKinds (fun vs H Q E h => ?_) (fun cdv A outer s H vs Q E hr h => ?_)
  · obtain ⟨a, i, fs, rfl, _⟩ := h
    rfl
  · obtain ⟨a, i, fs, rfl, hi, he, q⟩ := h
    refine ⟨_, pss_cons (ps_set (i := 1) scKinds.nd rfl (.inl rfl) (pe_lst (pa_cons (pe_callB call_isEr (by rfl) mS (by decide +kernel) (pa_cons (pv 0) (pa_cons (pe_glob (v := .ref (C 0)) (by rfl) T.e0.g rfl) pa_nil))) (pa_cons (pe_callB call_isEr (by rfl) mS (by decide +kernel) (pa_cons (pv 0) (pa_cons (pe_glob (v := .ref (C 1)) (by rfl) T.e1.g rfl) pa_nil))) (pa_cons (pe_callB call_isEr (by rfl) mS (by decide +kernel) (pa_cons (pv 0) (pa_cons (pe_glob (v := .ref (C 2)) (by rfl) T.e2.g rfl) pa_nil))) pa_nil))))) (pss_cons (ps_set (i := 1) scKinds.nd rfl (.inl rfl) (pe_op op_cat (pv 1) (pe_lst (pa_cons (pe_callB call_isEr (by rfl) mS (by decide +kernel) (pa_cons (pv 0) (pa_cons (pe_glob (v := .ref (C 3)) (by rfl) T.e3.g rfl) pa_nil))) (pa_cons (pe_callB call_isEr (by rfl) mS (by decide +kernel) (pa_cons (pv 0) (pa_cons (pe_glob (v := .ref (C 4)) (by rfl) T.e4.g rfl) pa_nil))) (pa_cons (pe_callB call_isEr (by rfl) mS (by decide +kernel) (pa_cons (pv 0) (pa_cons (pe_glob (v := .ref (C 5)) (by rfl) T.e5.g rfl) pa_nil))) pa_nil)))))) (pss_cons (ps_set (i := 1) scKinds.nd rfl (.inl rfl) (pe_op op_cat (pv 1) (pe_lst (pa_cons (pe_callB call_isEr (by rfl) mS (by decide +kernel) (pa_cons (pv 0) (pa_cons (pe_glob (v := .ref (C 6)) (by rfl) T.e6.g rfl) pa_nil))) (pa_cons (pe_callB call_isEr (by rfl) mS (by decide +kernel) (pa_cons (pv 0) (pa_cons (pe_glob (v := .ref (C 7)) (by rfl) T.e7.g rfl) pa_nil))) (pa_cons (pe_callB call_isEr (by rfl) mS (by decide +kernel) (pa_cons (pv 0) (pa_cons (pe_glob (v := .ref (C 8)) (by rfl) T.e8.g rfl) pa_nil))) pa_nil)))))) (pss_one (ps_ret (pe_op op_cat (pv 1) (pe_lst (pa_cons (pe_callB call_isEr (by rfl) mS (by decide +kernel) (pa_cons (pv 0) (pa_cons (pe_glob (v := .ref (C 9)) (by rfl) T.e9.g rfl) pa_nil))) (pa_cons (pe_callB call_isEr (by rfl) mS (by decide +kernel) (pa_cons (pv 0) (pa_cons (pe_glob (v := .ref (C 10)) (by rfl) T.e10.g rfl) pa_nil))) pa_nil)))))))), ?_⟩
    have ec := T.ec i hi
    have k : ∀ j, j < 11 → PySem.W.kitOne K (.ref (C i)) (.ref (C j)) = some (decide (i = j)) := fun j hj => T.kit i j hi hj
    refine ⟨.ref a, rfl, a, C i, fs, .ref (C 0), .ref (C 0), _, rfl, he, ec, .own _, k 0 (by decide), ?_⟩
    refine ⟨.ref a, rfl, a, C i, fs, .ref (C 1), .ref (C 1), _, rfl, he, ec, .own _, k 1 (by decide), ?_⟩
    refine ⟨.ref a, rfl, a, C i, fs, .ref (C 2), .ref (C 2), _, rfl, he, ec, .own _, k 2 (by decide), ?_⟩
    refine ⟨by show 3 ≤ sizeLine; decide, fun p0 n0 => ⟨.ref p0, rfl, ?_⟩⟩
    generalize hH0 : upd H p0 (.lst [.bl (decide (i = 0)), .bl (decide (i = 1)), .bl (decide (i = 2))]) = H0
    have s0 : Same H H0 := by rw [← hH0]; exact new_same n0
    have a0 : H0 p0 = some (.lst [.bl (decide (i = 0)), .bl (decide (i = 1)), .bl (decide (i = 2))]) := by rw [← hH0]; exact upd_same
    clear hH0
    replace he := he.keep s0
    refine ⟨.ref a, rfl, a, C i, fs, .ref (C 3), .ref (C 3), _, rfl, he, ec, .own _, k 3 (by decide), ?_⟩
    refine ⟨.ref a, rfl, a, C i, fs, .ref (C 4), .ref (C 4), _, rfl, he, ec, .own _, k 4 (by decide), ?_⟩
    refine ⟨.ref a, rfl, a, C i, fs, .ref (C 5), .ref (C 5), _, rfl, he, ec, .own _, k 5 (by decide), ?_⟩
    refine ⟨by show 3 ≤ sizeLine; decide, fun r0 m0 => ⟨p0, r0, [.bl (decide (i = 0)), .bl (decide (i = 1)), .bl (decide (i = 2))], _, rfl, rfl, new_ne a0 m0, upd_same, by show 6 ≤ sizeLine; decide, fun p1 n1 => ?_⟩⟩
    have a1 : upd (upd H0 r0 (.lst [.bl (decide (i = 3)), .bl (decide (i = 4)), .bl (decide (i = 5))])) p1 (.lst ([.bl (decide (i = 0)), .bl (decide (i = 1)), .bl (decide (i = 2))] ++ [.bl (decide (i = 3)), .bl (decide (i = 4)), .bl (decide (i = 5))])) p1 = some (.lst [.bl (decide (i = 0)), .bl (decide (i = 1)), .bl (decide (i = 2)), .bl (decide (i = 3)), .bl (decide (i = 4)), .bl (decide (i = 5))]) := upd_same
    have s1 : Same H0 (upd (upd H0 r0 (.lst [.bl (decide (i = 3)), .bl (decide (i = 4)), .bl (decide (i = 5))])) p1 (.lst ([.bl (decide (i = 0)), .bl (decide (i = 1)), .bl (decide (i = 2))] ++ [.bl (decide (i = 3)), .bl (decide (i = 4)), .bl (decide (i = 5))]))) := (new_same m0).trans (new_same n1)
    have f1 : H0 p1 = none := same_none (new_same m0) n1
    generalize upd (upd H0 r0 (.lst [.bl (decide (i = 3)), .bl (decide (i = 4)), .bl (decide (i = 5))])) p1 (.lst ([.bl (decide (i = 0)), .bl (decide (i = 1)), .bl (decide (i = 2))] ++ [.bl (decide (i = 3)), .bl (decide (i = 4)), .bl (decide (i = 5))])) = H1 at a1 s1 ⊢
    replace he := he.keep s1
    refine ⟨.ref p1, rfl, ?_⟩
    refine ⟨.ref a, rfl, a, C i, fs, .ref (C 6), .ref (C 6), _, rfl, he, ec, .own _, k 6 (by decide), ?_⟩
    refine ⟨.ref a, rfl, a, C i, fs, .ref (C 7), .ref (C 7), _, rfl, he, ec, .own _, k 7 (by decide), ?_⟩
    refine ⟨.ref a, rfl, a, C i, fs, .ref (C 8), .ref (C 8), _, rfl, he, ec, .own _, k 8 (by decide), ?_⟩
    refine ⟨by show 3 ≤ sizeLine; decide, fun r1 m1 => ⟨p1, r1, [.bl (decide (i = 0)), .bl (decide (i = 1)), .bl (decide (i = 2)), .bl (decide (i = 3)), .bl (decide (i = 4)), .bl (decide (i = 5))], _, rfl, rfl, new_ne a1 m1, upd_same, by show 9 ≤ sizeLine; decide, fun p2 n2 => ?_⟩⟩
    have a2 : upd (upd H1 r1 (.lst [.bl (decide (i = 6)), .bl (decide (i = 7)), .bl (decide (i = 8))])) p2 (.lst ([.bl (decide (i = 0)), .bl (decide (i = 1)), .bl (decide (i = 2)), .bl (decide (i = 3)), .bl (decide (i = 4)), .bl (decide (i = 5))] ++ [.bl (decide (i = 6)), .bl (decide (i = 7)), .bl (decide (i = 8))])) p2 = some (.lst [.bl (decide (i = 0)), .bl (decide (i = 1)), .bl (decide (i = 2)), .bl (decide (i = 3)), .bl (decide (i = 4)), .bl (decide (i = 5)), .bl (decide (i = 6)), .bl (decide (i = 7)), .bl (decide (i = 8))]) := upd_same
    have s2 : Same H1 (upd (upd H1 r1 (.lst [.bl (decide (i = 6)), .bl (decide (i = 7)), .bl (decide (i = 8))])) p2 (.lst ([.bl (decide (i = 0)), .bl (decide (i = 1)), .bl (decide (i = 2)), .bl (decide (i = 3)), .bl (decide (i = 4)), .bl (decide (i = 5))] ++ [.bl (decide (i = 6)), .bl (decide (i = 7)), .bl (decide (i = 8))]))) := (new_same m1).trans (new_same n2)
    have f2 : H1 p2 = none := same_none (new_same m1) n2
    generalize upd (upd H1 r1 (.lst [.bl (decide (i = 6)), .bl (decide (i = 7)), .bl (decide (i = 8))])) p2 (.lst ([.bl (decide (i = 0)), .bl (decide (i = 1)), .bl (decide (i = 2)), .bl (decide (i = 3)), .bl (decide (i = 4)), .bl (decide (i = 5))] ++ [.bl (decide (i = 6)), .bl (decide (i = 7)), .bl (decide (i = 8))])) = H2 at a2 s2 ⊢
    replace he := he.keep s2
    refine ⟨.ref p2, rfl, ?_⟩
    refine ⟨.ref a, rfl, a, C i, fs, .ref (C 9), .ref (C 9), _, rfl, he, ec, .own _, k 9 (by decide), ?_⟩
    refine ⟨.ref a, rfl, a, C i, fs, .ref (C 10), .ref (C 10), _, rfl, he, ec, .own _, k 10 (by decide), ?_⟩
    refine ⟨by show 2 ≤ sizeLine; decide, fun r2 m2 => ⟨p2, r2, [.bl (decide (i = 0)), .bl (decide (i = 1)), .bl (decide (i = 2)), .bl (decide (i = 3)), .bl (decide (i = 4)), .bl (decide (i = 5)), .bl (decide (i = 6)), .bl (decide (i = 7)), .bl (decide (i = 8))], _, rfl, rfl, new_ne a2 m2, upd_same, by show 11 ≤ sizeLine; decide, fun p3 n3 => ?_⟩⟩
    have a3 : upd (upd H2 r2 (.lst [.bl (decide (i = 9)), .bl (decide (i = 10))])) p3 (.lst ([.bl (decide (i = 0)), .bl (decide (i = 1)), .bl (decide (i = 2)), .bl (decide (i = 3)), .bl (decide (i = 4)), .bl (decide (i = 5)), .bl (decide (i = 6)), .bl (decide (i = 7)), .bl (decide (i = 8))] ++ [.bl (decide (i = 9)), .bl (decide (i = 10))])) p3 = some (.lst [.bl (decide (i = 0)), .bl (decide (i = 1)), .bl (decide (i = 2)), .bl (decide (i = 3)), .bl (decide (i = 4)), .bl (decide (i = 5)), .bl (decide (i = 6)), .bl (decide (i = 7)), .bl (decide (i = 8)), .bl (decide (i = 9)), .bl (decide (i = 10))]) := upd_same
    have s3 : Same H2 (upd (upd H2 r2 (.lst [.bl (decide (i = 9)), .bl (decide (i = 10))])) p3 (.lst ([.bl (decide (i = 0)), .bl (decide (i = 1)), .bl (decide (i = 2)), .bl (decide (i = 3)), .bl (decide (i = 4)), .bl (decide (i = 5)), .bl (decide (i = 6)), .bl (decide (i = 7)), .bl (decide (i = 8))] ++ [.bl (decide (i = 9)), .bl (decide (i = 10))]))) := (new_same m2).trans (new_same n3)
    have f3 : H2 p3 = none := same_none (new_same m2) n3
    generalize upd (upd H2 r2 (.lst [.bl (decide (i = 9)), .bl (decide (i = 10))])) p3 (.lst ([.bl (decide (i = 0)), .bl (decide (i = 1)), .bl (decide (i = 2)), .bl (decide (i = 3)), .bl (decide (i = 4)), .bl (decide (i = 5)), .bl (decide (i = 6)), .bl (decide (i = 7)), .bl (decide (i = 8))] ++ [.bl (decide (i = 9)), .bl (decide (i = 10))])) = H3 at a3 s3 ⊢
    replace he := he.keep s3
    refine q H3 p3 (s0.trans (s1.trans (s2.trans s3))) (same_none (s0.trans (s1.trans s2)) f3) ?_
    rw [a3]
    have e : kinds i = [.bl (decide (i = 0)), .bl (decide (i = 1)), .bl (decide (i = 2)), .bl (decide (i = 3)), .bl (decide (i = 4)), .bl (decide (i = 5)), .bl (decide (i = 6)), .bl (decide (i = 7)), .bl (decide (i = 8)), .bl (decide (i = 9)), .bl (decide (i = 10))] := by
      show [V.bl (decide (0 = i)), V.bl (decide (1 = i)), V.bl (decide (2 = i)), V.bl (decide (3 = i)), V.bl (decide (4 = i)), V.bl (decide (5 = i)), V.bl (decide (6 = i)), V.bl (decide (7 = i)), V.bl (decide (8 = i)), V.bl (decide (9 = i)), V.bl (decide (10 = i))] = _
      simp only [@eq_comm Nat i]
    rw [e]
end
end V0
/-! Whether errors are apart. -/
namespace V0
open PySem PySem.Spec PyProof.Rows L2
abbrev sApart : Stmt := topS 22
theorem scApart : FnScope ["some", "at", "error", "index"] ["some"] (defScope sApart) := ⟨rfl, rfl, rfl, by decide +kernel, rfl, by decide +kernel, by decide +kernel⟩
/-- the truths for the i-th class -/
def tru (i n : Nat) : List Bool := (List.range n).map fun j => decide (j = i)
theorem dp_bls {K : PySem.W.Frag} {H : Hp} : ∀ bs : List Bool, DpAll K H (bs.map V.bl) (bs.map PyData.bool)
  | [] => .nil
  | b :: bs => .cons (.bl b) (dp_bls bs)
theorem kinds_tru (i : Nat) : kinds i = (tru i 11).map V.bl := by
  unfold kinds tru
  rw [List.map_map]
  rfl
theorem tru_ok : ∀ i, i < 11 → SeqAt.shaped (.list ((tru i 11).map PyData.bool)) = true ∧ PyData.eqv (.list ((tru i 11).map PyData.bool)) (.list ((tru i 11).map PyData.bool)) = true := by decide +kernel
theorem tru_succ (i n : Nat) : tru i (n + 1) = tru i n ++ [decide (n = i)] := by
  unfold tru
  rw [List.range_succ, List.map_append]
  rfl
theorem tru_len (i n : Nat) : (tru i n).length = n := by
  unfold tru
  rw [List.length_map, List.length_range]
section
variable {P : Program} {w : World} {K : PySem.W.Frag} {mg : PySem.Str → Option Value} {base : Heap}
def spApart (C : Nat → Addr) : Sp := fun vs H Q _ => ∃ p e, vs = [.ref p] ∧ H p = some (.lst (refs e)) ∧ (∀ i, i < 11 → ∃ fs, Er H (e i) (C i) fs) ∧ ∀ H', Same H H' → Q (.bl true) H'
theorem refs_at {e : Nat → Addr} : ∀ {i : Nat} {x : V}, i < 11 → (refs e)[i]? = some x → x = .ref (e i)
  | 0, _, _, h | 1, _, _, h | 2, _, _, h | 3, _, _, h | 4, _, _, h | 5, _, _, h | 6, _, _, h | 7, _, _, h | 8, _, _, h | 9, _, _, h | 10, _, _, h => by cases h; rfl
  | n + 11, _, h, _ => absurd h (by omega)
theorem ok_apart {f fK : Addr} {fd fdK : FuncData} {k : Nat} {C I : Nat → Addr} {D : Nat → FuncData} {CP : Addr} (F : Fun K "_law_are_apart" "_law_are_apart" sApart f fd) (FK : Fun K "_law_kinds" "_law_kinds" sKinds fK fdK) (bK : Binds K fdK ["error"] []) (gK : mg "_law_kinds" = some (.ref fK))
    (T : Errs K mg C I D CP) (mS : mg "isinstance" = none) (mE : mg "enumerate" = none) (mV : mg "ValueError" = none) (mR : mg "range" = none) (mL : mg "len" = none) : FnOk P w K mg base CX0 (k + 2) f fd ["some"] (spApart C) := by
  have GK : FnOk P w K mg base CX0 (k + 1) fK fdK ["error"] (spKinds C) := ok_kinds FK T mS
  refine F.ok scApart (fun vs H Q E h => ?_) (fun cdv A outer s H vs Q E hr h => ?_)
  · obtain ⟨p, e, rfl, _⟩ := h
    rfl
  · obtain ⟨p, e, rfl, hp, he, q⟩ := h
    refine ⟨_, pss_cons (ps_for PassesOwn.never rfl (pi_enum (by rfl) mE (pa_cons (pv 0) pa_nil)) (pg_tup rfl (pgs_cons (pg_name (i := 1) scApart.nd rfl (Or.inr rfl)) (pgs_cons (pg_name (i := 2) scApart.nd rfl (Or.inl rfl)) pgs_nil)))
      (pss_cons (ps_if (PW.pt (pw_or (pt_not (pt_val (pe_callB call_isEr (by rfl) mS (by decide +kernel) (pa_cons (pv 2) (pa_cons (pe_glob (v := .ref CP) (by rfl) T.gP rfl) pa_nil)))))
          (pw_or1 (pt_not (pt_val (pe_callB call_isEr (by rfl) mS (by decide +kernel) (pa_cons (pv 2) (pa_cons (pe_bltn (v := .ty "ValueError") (u := .type "ValueError") (by rfl) mV (by decide +kernel) rfl) pa_nil))))))))
        (pss_one (ps_ret pe_bl)) pss_nil)
      (pss_one (ps_if (pt_cmpR (op_neD hr.units) (pe_call GK hr (by rfl) gK FK.kp bK .nil pass0 (pa_cons (pv 2) pa_nil))
          (pe_lc (own := [("index", 3)]) (g := gName 3) rfl scApart.nd (pi_range1 (by rfl) mR (pa_cons (pe_callB call_len_seq (by rfl) mL PySem.boot_len (pa_cons (pv 0) pa_nil)) pa_nil)) (blkOk_by (N := ["some", "at", "error", "index"]) (sc := defScope sApart) (by decide +kernel))
            (fun _ _ _ _ _ => pg_name (i := 3) scApart.nd rfl (Or.inl rfl)) (fun _ _ _ _ _ => pts_nil) (fun _ _ _ _ _ => pe_cmpR op_eq (pv 3) (pv 1) (nomark _))) (nomark _))
        (pss_one (ps_ret pe_bl)) pss_nil))))
      (pss_one (ps_ret pe_bl)), ?_⟩
    refine ⟨.ref p, rfl, p, refs e, rfl, .inl (.inl hp), for_it (walk_enum (xs := refs e)) (fun _ σ' H' => (∃ y1 y2, σ' = [some (.ref p), y1, y2, none]) ∧ Same H H') ⟨⟨none, none, rfl⟩, Same.refl _⟩ (fun i σ' H' _ ⟨_, s⟩ => .inl (.inl (s _ _ hp))) ?_ (fun σ' H' ⟨⟨y1, y2, e1⟩, s⟩ => ?_)⟩
    · rintro i x σ' H1 H2 hi ⟨⟨y1, y2, e1⟩, s1⟩ ⟨tp, x1, x2, rfl, n1, rfl, ex1, ex2⟩
      have hi' : i < 11 := hi
      cases ex1
      cases refs_at hi' ex2
      subst e1
      have s2 : Same H (upd H1 tp (.tup [.int (i : Nat), .ref (e i)])) := s1.trans (new_same n1)
      refine ⟨tp, _, rfl, .inl (.inl upd_same), rfl, _, _, rfl, _, _, rfl, rfl, ?_⟩
      generalize upd H1 tp (.tup [.int (i : Nat), .ref (e i)]) = H2 at s2
      obtain ⟨fs, he0⟩ := he i hi'
      have he2 := he0.keep s2
      refine ⟨.ref (e i), rfl, e i, C i, fs, .ref CP, .ref CP, true, rfl, he2, T.ec i hi', .own _, T.kitP i hi', true, rfl, ?_⟩
      refine ⟨.ref (e i), rfl, e i, C i, fs, .ty "ValueError", .type "ValueError", true, rfl, he2, T.ec i hi', .ty _, T.kitV i hi', true, rfl, ?_⟩
      refine ⟨.ref (e i), rfl, e i, i, fs, rfl, hi', he2, fun H3 pk s3 nk hk => ?_⟩
      refine ⟨.ref p, rfl, p, refs e, rfl, .inl (.inl (.inl (s3 _ _ (s2 _ _ hp)))), 11, rfl, by decide, by decide, fun Dl nD => ?_⟩
      refine lc_range (lo := 0) (n := 11) (fun j Hc => Hc Dl = some (.lst ((tru i j).map V.bl)) ∧ Same H3 Hc) ⟨upd_same, new_same nD⟩ (fun j Hc hj ⟨c1, c2⟩ => ?_) (fun Hc ⟨c1, c2⟩ => ?_)
      · refine ⟨rfl, .int (0 + (j : Nat)), rfl, .int (i : Nat), rfl, rfl, (tru i j).map V.bl, c1, by rw [List.length_map, tru_len, sizeLine_eq]; omega, ?_, ?_⟩
        · rw [upd_same, tru_succ, List.map_append]
          have e0 : decide (V.int (0 + (j : Nat)) = V.int (i : Nat)) = decide (j = i) := by
            refine decide_eq_decide.mpr ⟨fun z => ?_, fun z => ?_⟩
            · injection z with z
              omega
            · rw [z, Int.zero_add]
          rw [← e0]
          rfl
        · intro y o h
          have ny : y ≠ Dl := ne_of_none h nD
          rw [upd_ne ny]
          exact c2 y o h
      · obtain ⟨t1, t2⟩ := tru_ok i hi'
        refine ⟨_, _, .lst (.inl (.inl (c2 _ _ hk))) (by rw [kinds_tru]; exact dp_bls _), .lst (.inl (.inl c1)) (dp_bls _), t1, t1, _, rfl, ?_⟩
        rw [t2]
        exact ⟨⟨_, _, rfl⟩, s2.trans (s3.trans c2)⟩
    · exact q _ s
end
end V0
/-! Two lists alike; the fields of errors. -/
namespace V0
open PySem PySem.Spec PyProof.Rows L2
abbrev sAlike : Stmt := topS 23
abbrev sFields : Stmt := topS 24
theorem scAlike : FnScope ["found", "due"] ["found", "due"] (defScope sAlike) := ⟨rfl, rfl, rfl, by decide +kernel, rfl, by decide +kernel, by decide +kernel⟩
theorem scFields : FnScope ["some", "found"] ["some"] (defScope sFields) := ⟨rfl, rfl, rfl, by decide +kernel, rfl, by decide +kernel, by decide +kernel⟩
section
variable {P : Program} {w : World} {K : PySem.W.Frag} {mg : PySem.Str → Option Value} {base : Heap}
def spAlike (K : PySem.W.Frag) : Sp := fun vs H Q _ => ∃ (p q : Addr) (xs ys : List V) (n d : Nat) (as bs : List Addr) (t : PySem.Str) (c e : Nat), vs = [.ref p, .ref q] ∧ H p = some (.lst xs) ∧ H q = some (.lst ys) ∧ n ≤ 60 ∧ EqR K H (EqV K H n) (.ref p) (.ref q) ∧
  Shw H [.ref p] d as [t] c ∧ Shw H [.ref q] d bs [t] e ∧ d ≤ 60 ∧ c ≤ 16000000 ∧ e ≤ 16000000 ∧ Q (.bl true) H
theorem ok_alike {f : Addr} {fd : FuncData} {k : Nat} (F : Fun K "_law_alike" "_law_alike" sAlike f fd) (mR : mg "repr" = none) : Ok0 P w K mg base (k + 1) f fd ["found", "due"] (spAlike K) := by
  refine Ok0.mk_of F scAlike (fun vs H Q E h => ?_) (fun cdv A outer s H vs Q E hgd hr h => ?_)
  · obtain ⟨p, q, xs, ys, n, d, as, bs, t, c, e, rfl, _⟩ := h
    rfl
  · obtain ⟨p, q, xs, ys, n, d, as, bs, t, c, e, rfl, hp, hq, hn, heq, s1, s2, hd, hc, he, q⟩ := h
    refine ⟨_, pss_one (ps_ret (pe_and (pe_cmpR (op_eqV hr.units) (pv 0) (pv 1) (nomark _)) (pe_one (pe_cmpR op_eq (pe_callB (call_reprL hgd hr.units) (by rfl) mR (by decide +kernel) (pa_cons (pv 0) pa_nil)) (pe_callB (call_reprL hgd hr.units) (by rfl) mR (by decide +kernel) (pa_cons (pv 1) pa_nil)) (nomark _))))), ?_⟩
    refine ⟨_, rfl, _, rfl, n, hn, heq, true, rfl, ?_⟩
    refine ⟨_, rfl, p, d, as, t, c, rfl, ⟨xs, hp⟩, s1, hd, hc, _, rfl, _, d, bs, t, e, rfl, ⟨ys, hq⟩, s2, hd, he, rfl, ?_⟩
    rw [show decide (V.str t = V.str t) = true from decide_eq_true rfl]
    exact q
def spFields (C : Nat → Addr) : Sp := fun vs H Q _ => ∃ p e one other, vs = [.ref p] ∧ H p = some (.lst (refs e)) ∧ EA C one other H e ∧ ∀ H' q, Same H H' → H q = none → H' q = some (.lst [one, other, one, other, one, other, one, other, other, one]) → Q (.ref q) H'
theorem ok_fields {f : Addr} {fd : FuncData} {k : Nat} {C I : Nat → Addr} {D : Nat → FuncData} {CP : Addr} (F : Fun K "_law_fields" "_law_fields" sFields f fd) (T : Errs K mg C I D CP) : FnOk P w K mg base CX0 (k + 1) f fd ["some"] (spFields C) := by
  refine F.ok scFields (fun vs H Q E h => ?_) (fun cdv A outer s H vs Q E hr h => ?_)
  · obtain ⟨p, e, one, other, rfl, _⟩ := h
    rfl
  · obtain ⟨p, e, one, other, rfl, hp, Z, q⟩ := h
    refine ⟨_, pss_cons (ps_set (i := 1) scFields.nd rfl (.inl rfl) (pe_lst (pa_cons (pe_fldEr (pe_ix ix_list (pv 0) pe_int (fun _ _ => rfl))) (pa_cons (pe_fldEr (pe_ix ix_list (pv 0) pe_int (fun _ _ => rfl))) (pa_cons (pe_fldEr (pe_ix ix_list (pv 0) pe_int (fun _ _ => rfl))) (pa_cons (pe_fldEr (pe_ix ix_list (pv 0) pe_int (fun _ _ => rfl))) (pa_cons (pe_fldEr (pe_ix ix_list (pv 0) pe_int (fun _ _ => rfl))) (pa_cons (pe_fldEr (pe_ix ix_list (pv 0) pe_int (fun _ _ => rfl))) pa_nil)))))))) (pss_one (ps_ret (pe_op op_cat (pv 1) (pe_lst (pa_cons (pe_fldEr (pe_ix ix_list (pv 0) pe_int (fun _ _ => rfl))) (pa_cons (pe_fldEr (pe_ix ix_list (pv 0) pe_int (fun _ _ => rfl))) (pa_cons (pe_fldEr (pe_ix ix_list (pv 0) pe_int (fun _ _ => rfl))) (pa_cons (pe_fldEr (pe_ix ix_list (pv 0) pe_int (fun _ _ => rfl))) pa_nil)))))))), ?_⟩
    obtain ⟨d0, u0, w0⟩ := Z.z0
    obtain ⟨d1, u1, w1⟩ := Z.z1
    obtain ⟨d2, u2, w2⟩ := Z.z2
    obtain ⟨d3, u3, w3⟩ := Z.z3
    obtain ⟨d4, u4, w4⟩ := Z.z4
    obtain ⟨d5, u5, w5⟩ := Z.z5
    obtain ⟨d6, u6, w6⟩ := Z.z6
    obtain ⟨d7, u7, w7⟩ := Z.z7
    refine ⟨.ref p, rfl, p, refs e, 0, .ref (e 0), rfl, rfl, .inl (.inl hp), rfl, e 0, C 0, d0, _, one, rfl, u0, w0, T.e0.ec, T.e0.no, rfl, ?_⟩
    refine ⟨.ref p, rfl, p, refs e, 1, .ref (e 1), rfl, rfl, .inl (.inl hp), rfl, e 1, C 1, d1, _, other, rfl, u1, w1, T.e1.ec, T.e1.no, rfl, ?_⟩
    refine ⟨.ref p, rfl, p, refs e, 2, .ref (e 2), rfl, rfl, .inl (.inl hp), rfl, e 2, C 2, d2, _, one, rfl, u2, w2, T.e2.ec, T.e2.no, rfl, ?_⟩
    refine ⟨.ref p, rfl, p, refs e, 3, .ref (e 3), rfl, rfl, .inl (.inl hp), rfl, e 3, C 3, d3, _, other, rfl, u3, w3, T.e3.ec, T.e3.no, rfl, ?_⟩
    refine ⟨.ref p, rfl, p, refs e, 4, .ref (e 4), rfl, rfl, .inl (.inl hp), rfl, e 4, C 4, d4, _, one, rfl, u4, w4, T.e4.ec, T.e4.no, rfl, ?_⟩
    refine ⟨.ref p, rfl, p, refs e, 5, .ref (e 5), rfl, rfl, .inl (.inl hp), rfl, e 5, C 5, d5, _, other, rfl, u5, w5, T.e5.ec, T.e5.no, rfl, ?_⟩
    refine ⟨by show 6 ≤ sizeLine; decide, fun r nr => ⟨.ref r, rfl, ?_⟩⟩
    have hr0 : upd H r (.lst [one, other, one, other, one, other]) r = some (.lst [one, other, one, other, one, other]) := upd_same
    have s0 : Same H (upd H r (.lst [one, other, one, other, one, other])) := new_same nr
    generalize upd H r (.lst [one, other, one, other, one, other]) = H1 at hr0 s0 ⊢
    replace hp := s0 _ _ hp
    replace u6 := s0 _ _ u6
    replace w6 := s0 _ _ w6
    replace u7 := s0 _ _ u7
    replace w7 := s0 _ _ w7
    refine ⟨.ref p, rfl, p, refs e, 6, .ref (e 6), rfl, rfl, .inl (.inl hp), rfl, e 6, C 6, d6, _, one, rfl, u6, w6, T.e6.ec, T.e6.no1, rfl, ?_⟩
    refine ⟨.ref p, rfl, p, refs e, 6, .ref (e 6), rfl, rfl, .inl (.inl hp), rfl, e 6, C 6, d6, _, other, rfl, u6, w6, T.e6.ec, T.e6.no2, rfl, ?_⟩
    refine ⟨.ref p, rfl, p, refs e, 7, .ref (e 7), rfl, rfl, .inl (.inl hp), rfl, e 7, C 7, d7, _, other, rfl, u7, w7, T.e7.ec, T.e7.no1, rfl, ?_⟩
    refine ⟨.ref p, rfl, p, refs e, 7, .ref (e 7), rfl, rfl, .inl (.inl hp), rfl, e 7, C 7, d7, _, one, rfl, u7, w7, T.e7.ec, T.e7.no2, rfl, ?_⟩
    refine ⟨by show 4 ≤ sizeLine; decide, fun t nt => ⟨r, t, [one, other, one, other, one, other], _, rfl, rfl, new_ne hr0 nt, upd_same, by show 10 ≤ sizeLine; decide, fun m nm => ?_⟩⟩
    exact q _ m (s0.trans ((new_same nt).trans (new_same nm))) (same_none (s0.trans (new_same nt)) nm) upd_same
end
end V0
/-! Lists of two values over and over: equal, and printed alike. -/
namespace V0
open PySem PySem.Spec PyProof.Rows L2
/-- what == and repr take the same -/
def Kd (v : V) : Prop := flatB v = true ∨ ∃ a, v = .ref a
abbrev dup {α : Type} (x y : α) : List α := [x, y, x, y, x, y, x, y, y, x]
section
variable {K : PySem.W.Frag} {H H' : Hp} {x y : V} {p q f g d e : Addr}
theorem Kd.eq {v : V} (k : Kd v) : EqV K H 1 v v := by
  rcases k with k | ⟨a, rfl⟩
  · exact .inl ⟨rfl, k⟩
  · exact .inr (.inl ⟨a, rfl, rfl⟩)
theorem paired_kd : ∀ {vs : List V}, (∀ v ∈ vs, Kd v) → Paired (EqV K H 1) vs vs
  | [], _ => .nil
  | v :: vs, h => .cons (h v List.mem_cons_self).eq (paired_kd fun w hw => h w (List.mem_cons_of_mem _ hw))
theorem dup_kd (kx : Kd x) (ky : Kd y) : ∀ v ∈ dup x y, Kd v :=
  all_cons kx (all_cons ky (all_cons kx (all_cons ky (all_cons kx (all_cons ky (all_cons kx (all_cons ky (all_cons ky (all_cons kx fun v hv => by cases hv)))))))))
theorem eq_two (kx : Kd x) (ky : Kd y) (hp : H p = some (.lst [.ref f, .ref g])) (hq : H q = some (.lst [.ref d, .ref e])) (hf : H f = some (.lst (dup x y))) (hg : H g = some (.lst (dup y x))) (hd : H d = some (.lst (dup x y))) (he : H e = some (.lst (dup y x))) :
    EqR K H (EqV K H 2) (.ref p) (.ref q) := by
  refine .inl ⟨p, q, _, _, rfl, rfl, .inl (.inl hp), .inl (.inl hq), .cons (.inr (.inr (.inl ⟨f, d, _, _, rfl, rfl, .inl (.inl hf), .inl (.inl hd), paired_kd (dup_kd kx ky)⟩))) (.cons (.inr (.inr (.inl ⟨g, e, _, _, rfl, rfl, .inl (.inl hg), .inl (.inl he), paired_kd (dup_kd ky kx)⟩))) .nil)⟩
theorem Shw.kd {n : Nat} {as : List Addr} {t : PySem.Str} {c : Nat} (s : Shw H [x] n as [t] c) : Kd x := s.kind
theorem shw_dup {n : Nat} {as bs : List Addr} {t u : PySem.Str} {c m : Nat} (s : Shw H [x] n as [t] c) (r : Shw H [y] n bs [u] m) : ∃ cs k, (∀ a, a ∉ as → a ∉ bs → a ∉ cs) ∧ Shw H (dup x y) n cs (dup t u) k ∧ k = 5 * c + 5 * m := by
  refine ⟨_, _, ?_, s.cons1 (r.cons1 (s.cons1 (r.cons1 (s.cons1 (r.cons1 (s.cons1 (r.cons1 (r.cons1 s)))))))), by omega⟩
  intro a h1 h2 hm
  simp only [List.mem_append] at hm
  simp [h1, h2] at hm
theorem shw_two {n : Nat} {as bs : List Addr} {t u : PySem.Str} {c m : Nat} (s : Shw H [x] n as [t] c) (r : Shw H [y] n bs [u] m) (hp : H p = some (.lst [.ref f, .ref g])) (hf : H f = some (.lst (dup x y))) (hg : H g = some (.lst (dup y x)))
    (fa : f ∉ as) (fb : f ∉ bs) (ga : g ∉ as) (gb : g ∉ bs) (pa : p ∉ as) (pb : p ∉ bs) (pf : p ≠ f) (pg : p ≠ g) : ∃ cs k, Shw H [.ref p] (n + 2) cs [listText [listText (dup t u), listText (dup u t)]] k ∧ k = 30 + 10 * c + 10 * m := by
  obtain ⟨c1, k1, n1, s1, e1⟩ := shw_dup s r
  obtain ⟨c2, k2, n2, s2, e2⟩ := shw_dup r s
  refine ⟨_, _, .lst hp (.lst hf s1 (n1 f fa fb) (.lst hg s2 (n2 g gb ga) .nil)) ?_ .nil, by omega⟩
  intro hm
  simp only [List.mem_append, List.mem_cons, List.append_nil] at hm
  rcases hm with (z | z) | z | z
  · exact pf z
  · exact n1 p pa pb z
  · exact pg z
  · exact n2 p pb pa z
/-- what lists and dicts can't change, the one at b changed -/
theorem Kp.chg {b : Addr} {xs : List V} (h : H b = some (.lst xs)) (c : Chg b H H') : Kp H H' := fun a o ha h1 h2 => c a o (fun z => by
  rw [z, h] at ha
  cases ha
  exact h1 _ rfl) ha
theorem Kp.lst {b : Addr} {xs : List V} {o : HO} (h : H b = some (.lst xs)) : Kp H (upd H b o) := Kp.chg h Chg.set
theorem Kp.dic {b : Addr} {ks : List (Key × V)} {o : HO} (h : H b = some (.dK ks)) : Kp H (upd H b o) := fun a u ha h1 h2 => by
  rw [upd_ne (fun z => by
    rw [z, h] at ha
    cases ha
    exact h2 _ rfl)]
  exact ha
theorem Kp.trans {H1 H2 : Hp} (k : Kp H H1) (l : Kp H1 H2) : Kp H H2 := fun a o h h1 h2 => l a o (k a o h h1 h2) h1 h2
theorem Bag.at_ {b : Addr} (B : Bag H b) : ∃ xs, H b = some (.lst xs) := by
  obtain ⟨n, m, k, l, cs, hb, _⟩ := B
  exact ⟨_, hb⟩
/-- the bag's own list -/
def Own (H : Hp) (b l : Addr) : Prop := ∃ x y z, H b = some (.lst [x, y, z, .ref l])
theorem Bag.own {b : Addr} (B : Bag H b) : ∃ l cs, Own H b l ∧ H l = some (.lst cs) ∧ l ≠ b := by
  obtain ⟨n, m, k, l, cs, hb, hl, hne, _⟩ := B
  exact ⟨l, _, ⟨_, _, _, hb⟩, hl, hne⟩
theorem Own.fo {b l : Addr} (o : Own H b l) (f : Fo b H H') : Own H' b l := by
  obtain ⟨x, y, z, h⟩ := o
  exact f _ _ _ _ h
theorem Own.same {b l : Addr} (o : Own H b l) (s : Same H H') : Own H' b l := by
  obtain ⟨x, y, z, h⟩ := o
  exact ⟨_, _, _, s _ _ h⟩
/-- another object changed -/
theorem Bag.set {b l r : Addr} {o : HO} (B : Bag H b) (w : Own H b l) (h1 : r ≠ b) (h2 : r ≠ l) : Bag (upd H r o) b ∧ Own (upd H r o) b l := by
  obtain ⟨n, m, k, l', cs, hb, hl, rest⟩ := B
  obtain ⟨x, y, z, hw⟩ := w
  rw [hb] at hw
  cases hw
  have e1 : upd H r o b = some (.lst [.int n, .int m, .int k, .ref l]) := by rw [upd_ne h1.symm]; exact hb
  have e2 : upd H r o l = some (.lst (cs.map V.int)) := by rw [upd_ne h2.symm]; exact hl
  exact ⟨⟨n, m, k, l, cs, e1, e2, rest⟩, ⟨_, _, _, e1⟩⟩
end
end V0
/-! Pieces of the law's own expressions. -/
namespace V0
open PySem PySem.Spec PyProof.Rows L2
section
variable {X : Cx} {x y x' y' : PySem.Str} {p1 p2 p3 p4 p5 p6 p7 p8 p9 : Pos} {i j k : Nat}
/-- [x, y] * 4 + [y, x] -/
theorem pe_rows {n : Nat} (hx : PE X (.Name x p1) (tVar i)) (hy : PE X (.Name y p2) (tVar j)) (hy' : PE X (.Name y p6) (tVar j)) (hx' : PE X (.Name x p7) (tVar i)) :
    PE X (.BinOp (.BinOp (.List [.Name x p1, .Name y p2] p3) .Mult (.Constant (.int 4) n p4) p5) .Add (.List [.Name y p6, .Name x p7] p8) p9)
      (fun σ H Q => ∃ u v, σ[i]? = some (some u) ∧ σ[j]? = some (some v) ∧ ∀ H' d, Same H H' → H d = none → H' d = some (.lst (dup u v)) → Q (.ref d) H') := by
  constructor
  intro pins s σ H Q I ⟨u, v, hu, hv, q⟩
  refine (pe_op op_cat (pe_op op_rep (pe_lst (pa_cons hx (pa_cons hy pa_nil))) pe_int) (pe_lst (pa_cons hy' (pa_cons hx' pa_nil)))).run pins s σ H Q I ?_
  refine ⟨u, hu, v, hv, by show 2 ≤ sizeLine; decide, fun a1 n1 => ⟨a1, 4, _, rfl, rfl, upd_same, by decide, by decide, by show 2 * 4 ≤ sizeLine; decide, fun a2 n2 => ?_⟩⟩
  refine ⟨v, hv, u, hu, by show 2 ≤ sizeLine; decide, fun a3 n3 => ⟨a2, a3, [u, v, u, v, u, v, u, v], [v, u], rfl, rfl, new_ne upd_same n3, upd_same, by show 10 ≤ sizeLine; decide, fun d nd => ?_⟩⟩
  have s3 := ((new_same n1).trans (new_same n2)).trans (new_same (o := .lst [v, u]) n3)
  exact q _ d (s3.trans (new_same nd)) (same_none s3 nd) upd_same
/-- [fields of one, fields of the other] -/
theorem pe_two {f : Addr} {fd : FuncData} {C I : Nat → Addr} {D : Nat → FuncData} {CP : Addr} (F : Fun X.K "_law_fields" "_law_fields" sFields f fd) (b : Binds X.K fd ["some"] []) (g : X.mg "_law_fields" = some (.ref f)) (T : Errs X.K X.mg C I D CP)
    (hr : Room (k + 1) X.A) (hg : Gl X "_law_fields") (hx : PE X (.Name x p2) (tVar i)) (hy : PE X (.Name y p5) (tVar j)) :
    PE X (.List [.Call (.Name "_law_fields" p1) [.Name x p2] [] p3, .Call (.Name "_law_fields" p4) [.Name y p5] [] p6] p7)
      (fun σ H Q => ∃ p1 e1 p2 e2 u v, σ[i]? = some (some (.ref p1)) ∧ σ[j]? = some (some (.ref p2)) ∧ H p1 = some (.lst (refs e1)) ∧ H p2 = some (.lst (refs e2)) ∧ EA C u v H e1 ∧ EA C v u H e2 ∧
        ∀ H' p f g, Same H H' → H p = none → H f = none → H g = none → p ≠ f → p ≠ g → H' p = some (.lst [.ref f, .ref g]) → H' f = some (.lst (dup u v)) → H' g = some (.lst (dup v u)) → Q (.ref p) H') := by
  have GF : FnOk X.prog X.w X.K X.mg X.base CX0 (k + 1) f fd ["some"] (spFields C) := ok_fields F T
  constructor
  intro pins s σ H Q I ⟨q1, e1, q2, e2, u, v, h1, h2, h3, h4, Z1, Z2, q⟩
  refine (pe_lst (pa_cons (pe_call GF hr hg g F.kp b .nil pass0 (pa_cons hx pa_nil)) (pa_cons (pe_call GF hr hg g F.kp b .nil pass0 (pa_cons hy pa_nil)) pa_nil))).run pins s σ H Q I ?_
  refine ⟨.ref q1, h1, q1, e1, u, v, rfl, h3, Z1, fun H1 a s1 na ha => ⟨.ref q2, h2, q2, e2, v, u, rfl, s1 _ _ h4, Z2.kp (Kp.same s1), fun H2 c s2 nc hc => ⟨by show 2 ≤ sizeLine; decide, fun p np => ?_⟩⟩⟩
  exact q _ p a c (s1.trans (s2.trans (new_same np))) (same_none (s1.trans s2) np) na (same_none s1 nc) (fun z => by subst z; rw [s2 _ _ ha] at np; cases np) (fun z => by subst z; rw [hc] at np; cases np) upd_same
    (new_ne (s2 _ _ ha) np) (new_ne hc np)
end
abbrev sLaw : Stmt := topS 25
theorem scLaw : FnScope ["script", "bag", "turn", "one", "other", "some", "others", "due", "rows", "words"] ["script"] (defScope sLaw) := ⟨rfl, rfl, rfl, by decide +kernel, rfl, by decide +kernel, by decide +kernel⟩
def spLaw (K : PySem.W.Frag) : Sp := fun vs H Q _ => ∃ (a : Addr) (ns : List Int), vs = [.ref a] ∧ SqL K H a (ns.map V.int) ∧ ns.length ≤ 63 ∧ ∀ H', Q (.bl true) H'
/-- all defs of the law -/
structure Lws (K : PySem.W.Frag) (mg : PySem.Str → Option Value) (fT fO fI fD fB fG fU fK fA fL fF CP : Addr) (dT dO dI dD dB dG dU dK dA dL dF : FuncData) (C I : Nat → Addr) (D : Nat → FuncData) : Prop where
  B : Fns K mg fT fO fI fD fB dT dO dI dD dB
  E : Errs K mg C I D CP
  FG : Fun K "_law_bag" "_law_bag" sBag fG dG
  FU : Fun K "_law_built" "_law_built" sBuilt fU dU
  FK : Fun K "_law_kinds" "_law_kinds" sKinds fK dK
  FA : Fun K "_law_are_apart" "_law_are_apart" sApart fA dA
  FL : Fun K "_law_alike" "_law_alike" sAlike fL dL
  FF : Fun K "_law_fields" "_law_fields" sFields fF dF
  bG : Binds K dG ["script"] []
  bU : Binds K dU ["one", "other"] []
  bK : Binds K dK ["error"] []
  bA : Binds K dA ["some"] []
  bL : Binds K dL ["found", "due"] []
  bF : Binds K dF ["some"] []
  gG : mg "_law_bag" = some (.ref fG)
  gU : mg "_law_built" = some (.ref fU)
  gK : mg "_law_kinds" = some (.ref fK)
  gA : mg "_law_are_apart" = some (.ref fA)
  gL : mg "_law_alike" = some (.ref fL)
  gF : mg "_law_fields" = some (.ref fF)
  mAbs : mg "abs" = none
  mRepr : mg "repr" = none
  mRange : mg "range" = none
  mEnum : mg "enumerate" = none
  mVal : mg "ValueError" = none
end V0
/-! The law. -/
namespace V0
open PySem PySem.Spec PyProof.Rows L2
section
variable {P : Program} {w : World} {K : PySem.W.Frag} {mg : PySem.Str → Option Value} {base : Heap}
theorem ok_law {fa : Addr} {fd : FuncData} {fT fO fI fD fB fG fU fK fA fL fF CP : Addr} {dT dO dI dD dB dG dU dK dA dL dF : FuncData} {C I : Nat → Addr} {D : Nat → FuncData} (F : Fun K "law" "law" sLaw fa fd)
    (T : Lws K mg fT fO fI fD fB fG fU fK fA fL fF CP dT dO dI dD dB dG dU dK dA dL dF C I D) : Ok0 P w K mg base 9 fa fd ["script"] (spLaw K) := by
  have GB : FnOk P w K mg base CX0 8 fB dB ["bag", "thing", "deep"] (spBent 3) := ok_bent T.B 3
  have GT : FnOk P w K mg base CX0 1 fT dT ["bag", "many"] spTakeL := ok_takeL T.B.FT T.B.mInt
  have GD : FnOk P w K mg base CX0 3 fD dD ["bag"] spOdd := ok_odd T.B.FD T.B.FO T.B.bO T.B.gO T.B.FT T.B.bT T.B.gT T.B.mInt T.B.mLen
  have GG : FnOk P w K mg base CX0 1 fG dG ["script"] (spBag K) := ok_bag T.FG T.mAbs
  have GU : FnOk P w K mg base CX0 3 fU dU ["one", "other"] (spBuilt C) := ok_built T.FU T.E
  have GA : FnOk P w K mg base CX0 2 fA dA ["some"] (spApart C) := ok_apart T.FA T.FK T.bK T.gK T.E T.B.mIsi T.mEnum T.mVal T.mRange T.B.mLen
  have GF : FnOk P w K mg base CX0 1 fF dF ["some"] (spFields C) := ok_fields T.FF T.E
  have GL : Ok0 P w K mg base 1 fL dL ["found", "due"] (spAlike K) := ok_alike T.FL T.mRepr
  refine Ok0.mk_of F scLaw (fun vs H Q E h => ?_) (fun cdv A outer s H vs Q E hgd hr h => ?_)
  · obtain ⟨a, ns, rfl, _⟩ := h
    rfl
  · obtain ⟨a, ns, rfl, hS, hl, q⟩ := h
    have hr1 : Room 1 _ := hr.mono (show 1 ≤ 8 by decide)
    have hr2 : Room 2 _ := hr.mono (show 2 ≤ 8 by decide)
    have hr3 : Room 3 _ := hr.mono (show 3 ≤ 8 by decide)
    refine ⟨_, pss_cons (ps_set (i := 1) scLaw.nd rfl (.inl rfl) (pe_call GG hr1 (by rfl) T.gG T.FG.kp T.bG .nil pass0 (pa_cons (pv 0) pa_nil)))
      (pss_cons (ps_for PassesOwn.never rfl (pi_range1 (by rfl) T.mRange (pa_cons pe_int pa_nil)) (pg_name (i := 2) scLaw.nd rfl (Or.inl rfl))
        (C8.pss_cut (ps_par (i := 3) (j := 4) rfl scLaw.nd rfl rfl (by decide) rfl rfl (pa_cons (pe_call GB hr (by rfl) T.B.gB T.B.FB.kp T.B.bB .nil pass0 (pa_cons (pv 1) (pa_cons (pe_call GD hr3 (by rfl) T.B.gD T.B.FD.kp T.B.bD .nil pass0 (pa_cons (pv 1) pa_nil)) (pa_cons pe_int pa_nil))))
            (pa_cons (pe_call GD hr3 (by rfl) T.B.gD T.B.FD.kp T.B.bD .nil pass0 (pa_cons (pv 1) pa_nil)) pa_nil)) (by rfl))
        (C8.pss_cut (ps_par (i := 5) (j := 6) rfl scLaw.nd rfl rfl (by decide) rfl rfl (pa_cons (pe_call GU hr3 (by rfl) T.gU T.FU.kp T.bU .nil pass0 (pa_cons (pv 3) (pa_cons (pv 4) pa_nil)))
            (pa_cons (pe_call GU hr3 (by rfl) T.gU T.FU.kp T.bU .nil pass0 (pa_cons (pv 4) (pa_cons (pv 3) pa_nil))) pa_nil)) (by rfl))
        (C8.pss_cut (ps_if (PW.pt (pw_or (pt_not (pt_val (pe_call GA hr2 (by rfl) T.gA T.FA.kp T.bA .nil pass0 (pa_cons (pv 5) pa_nil)))) (pw_or1 (pt_not (pt_val (pe_call GA hr2 (by rfl) T.gA T.FA.kp T.bA .nil pass0 (pa_cons (pv 6) pa_nil))))))) (pss_one (ps_ret pe_bl)) pss_nil)
        (C8.pss_cut (ps_set (i := 7) scLaw.nd rfl (.inl rfl) (pe_rows (i := 3) (j := 4) (pv 3) (pv 4) (pv 4) (pv 3)))
        (C8.pss_cut (ps_if (pt_not (pt_val (pe_call00 GL hgd hr1 (by rfl) T.gL T.FL.kp T.bL (pa_cons (pe_two (i := 5) (j := 6) T.FF T.bF T.gF T.E hr1 (by rfl) (pv 5) (pv 6)) (pa_cons (pe_lst (pa_cons (pv 7) (pa_cons (pe_rows (i := 4) (j := 3) (pv 4) (pv 3) (pv 3) (pv 4)) pa_nil))) pa_nil))))) (pss_one (ps_ret pe_bl)) pss_nil)
        (C8.pss_cut (ps_par (i := 8) (j := 9) rfl scLaw.nd rfl rfl (by decide) rfl rfl (pa_cons (pe_lst (pa_cons (pv 3) pa_nil)) (pa_cons (pe_disp (pps_cons pe_str (pv 4) pps_nil) (by rfl) (by rfl) (fun z => by cases z) (by decide)) pa_nil)) (by rfl))
        (C8.pss_cut (ps_par (i := 5) (j := 6) rfl scLaw.nd rfl rfl (by decide) rfl rfl (pa_cons (pe_call GU hr3 (by rfl) T.gU T.FU.kp T.bU .nil pass0 (pa_cons (pv 8) (pa_cons (pv 9) pa_nil)))
            (pa_cons (pe_call GU hr3 (by rfl) T.gU T.FU.kp T.bU .nil pass0 (pa_cons (pv 9) (pa_cons (pv 8) pa_nil))) pa_nil)) (by rfl))
        (C8.pss_cut (ps_expr (pe_bm PySem.F.plainAttrs_list PySem.F.slot_list_append PySem.F.type_list_append mt_append (pv 8) (pa_cons (pe_call GT hr1 (by rfl) T.B.gT T.B.FT.kp T.B.bT .nil pass0 (pa_cons (pv 1) (pa_cons pe_int pa_nil))) pa_nil)))
        (C8.pss_cut (ps_dput (Nat.lt_of_le_of_lt (Nat.add_le_add_left (by decide) _) hr.units) (pv 9) pe_str (pv 3) (by rfl))
        (C8.pss_cut (ps_set (i := 7) scLaw.nd rfl (.inl rfl) (pe_lst (pa_cons (pe_rows (i := 8) (j := 9) (pv 8) (pv 9) (pv 9) (pv 8)) (pa_cons (pe_rows (i := 9) (j := 8) (pv 9) (pv 8) (pv 8) (pv 9)) pa_nil))))
        (C8.pss_cut (ps_if (pt_not (pt_val (pe_call00 GL hgd hr1 (by rfl) T.gL T.FL.kp T.bL (pa_cons (pe_two (i := 5) (j := 6) T.FF T.bF T.gF T.E hr1 (by rfl) (pv 5) (pv 6)) (pa_cons (pv 7) pa_nil))))) (pss_one (ps_ret pe_bl)) pss_nil)
        (C8.pss_cut (ps_expr (pe_bm0 PySem.F.plainAttrs_list PySem.F.slot_list_clear PySem.F.type_list_clear mt_clear (pv 8)))
        (pss_one (ps_if (PW.pt (pw_or (pt_cmpR op_ne (pe_callB (call_reprL hgd hr.units) (by rfl) T.mRepr (by decide +kernel) (pa_cons (pe_ix ix_list (pe_call GF hr1 (by rfl) T.gF T.FF.kp T.bF .nil pass0 (pa_cons (pv 5) pa_nil)) pe_int (fun _ _ => rfl)) pa_nil)) pe_str (nomark _))
            (pw_or1 (pt_cmpR op_ne (pe_callB (call_reprL hgd hr.units) (by rfl) T.mRepr (by decide +kernel) (pa_cons (pe_ix ix_list (pe_call GF hr1 (by rfl) T.gF T.FF.kp T.bF .nil pass0 (pa_cons (pv 6) pa_nil)) pe_int (fun _ _ => rfl)) pa_nil)) pe_str (nomark _))))) (pss_one (ps_ret pe_bl)) pss_nil)))))))))))))))
      (pss_one (ps_ret pe_bl))), ?_⟩
    refine ⟨.ref a, rfl, a, ns, rfl, hS, hl, fun H0 b _ _ hB0 => ⟨4, rfl, by decide, by decide, for_range (n := 4) (fun _ σ' H' => (∃ x2 x3 x4 x5 x6 x7 x8 x9, σ' = [some (.ref a), some (.ref b), x2, x3, x4, x5, x6, x7, x8, x9]) ∧ Bag H' b) ⟨⟨_, _, _, _, _, _, _, _, rfl⟩, hB0⟩ (fun i σ' H1 hi hP => ?_) (fun σ' H' _ => q H')⟩⟩
    obtain ⟨⟨x2, x3, x4, x5, x6, x7, x8, x9, rfl⟩, hB1⟩ := hP
    clear hB0 hS
    -- one, other
    refine ⟨fun σ' H' => ∃ one other, σ' = [some (.ref a), some (.ref b), some (.int (0 + (i : Nat))), some one, some other, x5, x6, x7, x8, x9] ∧ Bag H' b ∧ Pv b H' 5 590530 one ∧ Pv b H' 5 4100 other, ?_, ?_⟩
    · refine ⟨.ref b, rfl, .ref b, rfl, b, rfl, hB1, fun H2 v c2 B2 lo2 pv2 => ⟨b, v, rfl, B2, lo2, pv2, fun H3 v' c3 B3 pv3 => ⟨.ref b, rfl, b, rfl, B3, fun H4 u c4 B4 lo4 pv4 => ⟨v', u, rfl, v', u, rfl, B4, ?_, pv4.mono (by decide) (Nat.le_refl _)⟩⟩⟩⟩
      exact (pv3.chg c4).mono (by decide) (by decide)
    rintro σ' H2 ⟨one, other, rfl, hB2, ⟨as, t, c, S1, hc, hb1⟩, ⟨bs, u, e, S2, he, hb2⟩⟩
    have k1 : Kd one := S1.kd
    have k2 : Kd other := S2.kd
    clear hB1
    -- some, others
    refine ⟨fun σ' H' => ∃ p1 e1 p2 e2, σ' = [some (.ref a), some (.ref b), some (.int (0 + (i : Nat))), some one, some other, some (.ref p1), some (.ref p2), x7, x8, x9] ∧ Same H2 H' ∧ H' p1 = some (.lst (refs e1)) ∧ H' p2 = some (.lst (refs e2)) ∧ EA C one other H' e1 ∧ EA C other one H' e2, ?_, ?_⟩
    · refine ⟨one, rfl, other, rfl, one, other, rfl, fun H3 p1 e1 s3 _ h3 Z3 => ⟨other, rfl, one, rfl, other, one, rfl, fun H4 p2 e2 s4 _ h4 Z4 => ⟨_, _, rfl, p1, e1, p2, e2, rfl, s3.trans s4, s4 _ _ h3, h4, Z3.kp (Kp.same s4), Z4⟩⟩⟩
    rintro σ' H3 ⟨p1, e1, p2, e2, rfl, s3, h31, h32, Z31, Z32⟩
    -- apart
    refine ⟨fun σ' H' => σ' = [some (.ref a), some (.ref b), some (.int (0 + (i : Nat))), some one, some other, some (.ref p1), some (.ref p2), x7, x8, x9] ∧ Same H3 H', ?_, ?_⟩
    · refine ⟨_, rfl, p1, e1, rfl, h31, Z31.er, fun H4 s4 => ⟨true, rfl, _, rfl, p2, e2, rfl, s4 _ _ h32, (Z32.kp (Kp.same s4)).er, fun H5 s5 => ⟨true, rfl, rfl, s4.trans s5⟩⟩⟩
    rintro σ' H4 ⟨rfl, s4⟩
    -- due
    refine ⟨fun σ' H' => ∃ d, σ' = [some (.ref a), some (.ref b), some (.int (0 + (i : Nat))), some one, some other, some (.ref p1), some (.ref p2), some (.ref d), x8, x9] ∧ Same H4 H' ∧ H4 d = none ∧ H' d = some (.lst (dup one other)), ?_, ?_⟩
    · exact ⟨one, other, rfl, rfl, fun H5 d s5 nd hd => ⟨d, rfl, s5, nd, hd⟩⟩
    rintro σ' H5 ⟨d, rfl, s5, nd, hd5⟩
    have s24 : Same H2 H4 := s3.trans s4
    have s25 : Same H2 H5 := s24.trans s5
    have S15 := S1.keep fun b _ o h => s25 b o h
    have S25 := S2.keep fun b _ o h => s25 b o h
    have da : d ∉ as := S1.fresh (same_none s24 nd)
    have db : d ∉ bs := S2.fresh (same_none s24 nd)
    -- alike
    refine ⟨fun σ' H' => σ' = [some (.ref a), some (.ref b), some (.int (0 + (i : Nat))), some one, some other, some (.ref p1), some (.ref p2), some (.ref d), x8, x9] ∧ Same H5 H', ?_, ?_⟩
    · refine ⟨p1, e1, p2, e2, one, other, rfl, rfl, s5 _ _ (s4 _ _ h31), s5 _ _ (s4 _ _ h32), Z31.kp (Kp.same (s4.trans s5)), Z32.kp (Kp.same (s4.trans s5)), fun H6 p f g s6 np nf ng npf npg hp hf hg => ?_⟩
      refine ⟨.ref d, rfl, other, one, rfl, rfl, fun H7 d2 s7 nd2 hd2 => ⟨by show 2 ≤ sizeLine; decide, fun r nr => ?_⟩⟩
      have s8 : Same H7 (upd H7 r (.lst [.ref d, .ref d2])) := new_same nr
      have hr8 : upd H7 r (.lst [.ref d, .ref d2]) r = some (.lst [.ref d, .ref d2]) := upd_same
      have n7 : H5 r = none := same_none (s6.trans s7) nr
      have rd : r ≠ d := fun z => by subst z; rw [hd5] at n7; cases n7
      have rd2 : r ≠ d2 := fun z => by subst z; rw [hd2] at nr; cases nr
      generalize upd H7 r (.lst [.ref d, .ref d2]) = H8 at s8 hr8 ⊢
      have s58 : Same H5 H8 := s6.trans (s7.trans s8)
      have s78 := s7.trans s8
      have A1 := S15.keep fun b _ o h => s58 b o h
      have A2 := S25.keep fun b _ o h => s58 b o h
      obtain ⟨cs1, m1, w1, l1⟩ := shw_two A1 A2 (s78 _ _ hp) (s78 _ _ hf) (s78 _ _ hg) (S15.fresh nf) (S25.fresh nf) (S15.fresh ng) (S25.fresh ng) (S15.fresh np) (S25.fresh np) npf npg
      have nd2' : H5 d2 = none := same_none s6 nd2
      obtain ⟨cs2, m2, w2, l2⟩ := shw_two A1 A2 hr8 (s58 _ _ hd5) (s8 _ _ hd2) da db (S15.fresh nd2') (S25.fresh nd2') (S15.fresh n7) (S25.fresh n7) rd rd2
      exact ⟨p, r, _, _, 2, 7, cs1, cs2, _, m1, m2, rfl, s78 _ _ hp, hr8, by decide, eq_two k1 k2 (s78 _ _ hp) hr8 (s78 _ _ hf) (s78 _ _ hg) (s58 _ _ hd5) (s8 _ _ hd2), w1, w2, by decide, by omega, by omega, true, rfl, rfl, s58⟩
    rintro σ' H6 ⟨rfl, s6⟩
    have s26 : Same H2 H6 := s25.trans s6
    -- rows, words
    refine ⟨fun σ' H' => ∃ rw wd, σ' = [some (.ref a), some (.ref b), some (.int (0 + (i : Nat))), some one, some other, some (.ref p1), some (.ref p2), some (.ref d), some (.ref rw), some (.ref wd)] ∧ Same H6 H' ∧ H6 rw = none ∧ H6 wd = none ∧ rw ≠ wd ∧ H' rw = some (.lst [one]) ∧ H' wd = some (.dK [(.inr "a", other)]), ?_, ?_⟩
    · refine ⟨one, rfl, by show 1 ≤ sizeLine; decide, fun rw nrw wd nwd => ⟨other, rfl, upd_same, [(.inr "a", other)], rfl, by show 1 ≤ 15; decide, ⟨_, _, rfl, rw, wd, rfl, fun x o h => ?_, nrw, same_none (new_same nrw) nwd, ne_of_none upd_same nwd, ?_, upd_same⟩⟩⟩
      · have nx : x ≠ wd := ne_of_none h (same_none (new_same nrw) nwd)
        rw [upd_ne nx, upd_ne nx]
        exact new_ne h nrw
      · have nx : rw ≠ wd := ne_of_none upd_same nwd
        rw [upd_ne nx, upd_ne nx]
        exact upd_same
    rintro σ' H7 ⟨rw, wd, rfl, s7, nrw, nwd, rwd, hrw7, hwd7⟩
    have hB6 : Bag H6 b := hB2.same s26
    obtain ⟨l, cs, O6, hl6, hlb⟩ := hB6.own
    have rwl : rw ≠ l := (ne_of_none hl6 nrw).symm
    have wdl : wd ≠ l := (ne_of_none hl6 nwd).symm
    obtain ⟨xb, hxb⟩ := hB6.at_
    have rwb : rw ≠ b := (ne_of_none hxb nrw).symm
    have wdb : wd ≠ b := (ne_of_none hxb nwd).symm
    have S16 := S1.keep fun b _ o h => s26 b o h
    have S26 := S2.keep fun b _ o h => s26 b o h
    have ra1 : rw ∉ as := S16.fresh nrw
    have ra2 : rw ∉ bs := S26.fresh nrw
    have wa1 : wd ∉ as := S16.fresh nwd
    have wa2 : wd ∉ bs := S26.fresh nwd
    have hB7 := hB6.same s7
    have O7 := O6.same s7
    have S17 := S16.keep fun b _ o h => s7 b o h
    have S27 := S26.keep fun b _ o h => s7 b o h
    clear h31 h32 Z31 Z32 s3 s4 s5 s6 s24 s25 s26 nd hd5 da db S15 S25 S1 S2 hB2 O6 hl6 hxb hB6 s7
    -- some, others
    refine ⟨fun σ' H' => ∃ p1 e1 p2 e2, σ' = [some (.ref a), some (.ref b), some (.int (0 + (i : Nat))), some one, some other, some (.ref p1), some (.ref p2), some (.ref d), some (.ref rw), some (.ref wd)] ∧ Same H7 H' ∧ H7 p1 = none ∧ H7 p2 = none ∧ H' p1 = some (.lst (refs e1)) ∧ H' p2 = some (.lst (refs e2)) ∧ EA C (.ref rw) (.ref wd) H' e1 ∧ EA C (.ref wd) (.ref rw) H' e2, ?_, ?_⟩
    · refine ⟨_, rfl, _, rfl, .ref rw, .ref wd, rfl, fun H3 p1 e1 s3 n3 h3 Z3 => ⟨_, rfl, _, rfl, .ref wd, .ref rw, rfl, fun H4 p2 e2 s4 n4 h4 Z4 => ⟨_, _, rfl, p1, e1, p2, e2, rfl, s3.trans s4, n3, same_none s3 n4, s4 _ _ h3, h4, Z3.kp (Kp.same s4), Z4⟩⟩⟩
    rintro σ' H8 ⟨p1, e1, p2, e2, rfl, s8, np1, np2, h81, h82, Z81, Z82⟩
    have p1r : p1 ≠ rw := (ne_of_none hrw7 np1).symm
    have p1w : p1 ≠ wd := (ne_of_none hwd7 np1).symm
    have p2r : p2 ≠ rw := (ne_of_none hrw7 np2).symm
    have p2w : p2 ≠ wd := (ne_of_none hwd7 np2).symm
    obtain ⟨xb, hxb⟩ := hB7.at_
    have p1b : p1 ≠ b := (ne_of_none hxb np1).symm
    have p2b : p2 ≠ b := (ne_of_none hxb np2).symm
    have hB8 := hB7.same s8
    have O8 := O7.same s8
    have S18 := S17.keep fun b _ o h => s8 b o h
    have S28 := S27.keep fun b _ o h => s8 b o h
    have hrw8 := s8 _ _ hrw7
    have hwd8 := s8 _ _ hwd7
    have hxb8 := s8 _ _ hxb
    clear hxb s8 hB7 O7 S17 S27 hrw7 hwd7 np1 np2
    -- rows.append
    refine ⟨fun σ' H' => σ' = [some (.ref a), some (.ref b), some (.int (0 + (i : Nat))), some one, some other, some (.ref p1), some (.ref p2), some (.ref d), some (.ref rw), some (.ref wd)] ∧ ∃ H9 m, Chg b H8 H9 ∧ Bag H9 b ∧ Own H9 b l ∧ 0 ≤ m ∧ m < 9 ∧ H' = upd H9 rw (.lst [one, .int m]), ?_, ?_⟩
    · refine ⟨_, rfl, .inl ⟨rfl, _, .inl (.inl hrw8)⟩, .ref b, rfl, b, 9, rfl, hB8, by decide, by decide, fun H9 m c9 B9 f9 m0 m1 => ⟨rw, [one], .int m, rfl, rfl, c9 _ _ rwb hrw8, by show 1 < sizeLine; decide, rfl, H9, m, c9, B9, O8.fo f9, m0, m1, rfl⟩⟩
    rintro σ' H10 ⟨rfl, H9, m, c9, hB9, O9, m0, m1, rfl⟩
    obtain ⟨hB10, O10⟩ := hB9.set (o := .lst [one, .int m]) O9 rwb rwl
    have hrw9 := c9 _ _ rwb hrw8
    have kp10 : Kp H8 (upd H9 rw (.lst [one, .int m])) := (Kp.chg hxb8 c9).trans (Kp.lst hrw9)
    have hp1 : upd H9 rw (.lst [one, .int m]) p1 = some (.lst (refs e1)) := by rw [upd_ne p1r]; exact c9 _ _ p1b h81
    have hp2 : upd H9 rw (.lst [one, .int m]) p2 = some (.lst (refs e2)) := by rw [upd_ne p2r]; exact c9 _ _ p2b h82
    have hwd10 : upd H9 rw (.lst [one, .int m]) wd = some (.dK [(.inr "a", other)]) := by rw [upd_ne rwd.symm]; exact c9 _ _ wdb hwd8
    have hrw10 : upd H9 rw (.lst [one, .int m]) rw = some (.lst [one, .int m]) := upd_same
    have S110 : Shw (upd H9 rw (.lst [one, .int m])) [one] 5 as [t] c := S18.keep fun x hx o h => by
      have nx : x ≠ rw := fun z => ra1 (z ▸ hx)
      rw [upd_ne nx]
      exact c9 _ _ (fun z => hb1 (z ▸ hx)) h
    have S210 : Shw (upd H9 rw (.lst [one, .int m])) [other] 5 bs [u] e := S28.keep fun x hx o h => by
      have nx : x ≠ rw := fun z => ra2 (z ▸ hx)
      rw [upd_ne nx]
      exact c9 _ _ (fun z => hb2 (z ▸ hx)) h
    have Z1 := Z81.kp kp10
    have Z2 := Z82.kp kp10
    clear kp10 hrw9 hB9 O9 c9 hB8 O8 S18 S28 hrw8 hwd8 hxb8 h81 h82 Z81 Z82
    generalize upd H9 rw (.lst [one, .int m]) = H10 at *
    -- words["b"] = one
    refine ⟨fun σ' H' => σ' = [some (.ref a), some (.ref b), some (.int (0 + (i : Nat))), some one, some other, some (.ref p1), some (.ref p2), some (.ref d), some (.ref rw), some (.ref wd)] ∧ H' = upd H10 wd (.dK [(.inr "a", other), (.inr "b", one)]), ?_, ?_⟩
    · exact ⟨one, rfl, _, rfl, wd, _, rfl, DPut.k (k := .inr "b") hwd10 (by show 1 < sizeLine; decide), rfl, rfl⟩
    rintro σ' H11 ⟨rfl, rfl⟩
    obtain ⟨hB11, O11⟩ := hB10.set (o := .dK [(.inr "a", other), (.inr "b", one)]) O10 wdb wdl
    have kp11 : Kp H10 (upd H10 wd (.dK [(.inr "a", other), (.inr "b", one)])) := Kp.dic hwd10
    have hp1' : upd H10 wd (.dK [(.inr "a", other), (.inr "b", one)]) p1 = some (.lst (refs e1)) := by rw [upd_ne p1w]; exact hp1
    have hp2' : upd H10 wd (.dK [(.inr "a", other), (.inr "b", one)]) p2 = some (.lst (refs e2)) := by rw [upd_ne p2w]; exact hp2
    have hrw11 : upd H10 wd (.dK [(.inr "a", other), (.inr "b", one)]) rw = some (.lst [one, .int m]) := by rw [upd_ne rwd]; exact hrw10
    have hwd11 : upd H10 wd (.dK [(.inr "a", other), (.inr "b", one)]) wd = some (.dK [(.inr "a", other), (.inr "b", one)]) := upd_same
    have S111 : Shw (upd H10 wd (.dK [(.inr "a", other), (.inr "b", one)])) [one] 5 as [t] c := S110.keep fun x hx o h => by
      have nx : x ≠ wd := fun z => wa1 (z ▸ hx)
      rw [upd_ne nx]
      exact h
    have S211 : Shw (upd H10 wd (.dK [(.inr "a", other), (.inr "b", one)])) [other] 5 bs [u] e := S210.keep fun x hx o h => by
      have nx : x ≠ wd := fun z => wa2 (z ▸ hx)
      rw [upd_ne nx]
      exact h
    have Y1 := Z1.kp kp11
    have Y2 := Z2.kp kp11
    clear kp11 hB10 O10 hp1 hp2 hrw10 hwd10 S110 S210 Z1 Z2
    generalize upd H10 wd (.dK [(.inr "a", other), (.inr "b", one)]) = H11 at *
    -- what rows and words print as
    have R1 : Shw H11 [.ref rw] 6 ((rw :: as) ++ []) [listText [t, toString m]] (10 + (c + (70 + 0)) + 0) := .lst hrw11 (by simpa using S111.cons1 (.int m (by omega) .nil)) ra1 .nil
    have R2 : Shw H11 [.ref wd] 6 ((wd :: (bs ++ as)) ++ []) [_] (10 + 1010 * 2 + (e + c) + 0) :=
      .dic [("a", other), ("b", one)] hwd11 (all_cons ⟨show ("a" : PySem.Str).length ≤ 100 by decide +kernel, ofs_ok "a"⟩ (all_cons ⟨show ("b" : PySem.Str).length ≤ 100 by decide +kernel, ofs_ok "b"⟩ fun p hp => by cases hp)) (S211.cons1 S111) (by simp [wa1, wa2]) .nil
    have kr1 : Kd (.ref rw) := .inr ⟨rw, rfl⟩
    have kr2 : Kd (.ref wd) := .inr ⟨wd, rfl⟩
    -- due
    refine ⟨fun σ' H' => ∃ r d1 d2, σ' = [some (.ref a), some (.ref b), some (.int (0 + (i : Nat))), some one, some other, some (.ref p1), some (.ref p2), some (.ref r), some (.ref rw), some (.ref wd)] ∧ Same H11 H' ∧ H11 r = none ∧ H11 d1 = none ∧ H11 d2 = none ∧ r ≠ d1 ∧ r ≠ d2 ∧ H' r = some (.lst [.ref d1, .ref d2]) ∧ H' d1 = some (.lst (dup (.ref rw) (.ref wd))) ∧ H' d2 = some (.lst (dup (.ref wd) (.ref rw))), ?_, ?_⟩
    · refine ⟨.ref rw, .ref wd, rfl, rfl, fun H3 d1 s3 n1 h1 => ⟨.ref wd, .ref rw, rfl, rfl, fun H4 d2 s4 n2 h2 => ⟨by show 2 ≤ sizeLine; decide, fun r nr => ?_⟩⟩⟩
      exact ⟨r, d1, d2, rfl, s3.trans (s4.trans (new_same nr)), same_none (s3.trans s4) nr, n1, same_none s3 n2, (ne_of_none (s4 _ _ h1) nr).symm, (ne_of_none h2 nr).symm, upd_same, new_ne (s4 _ _ h1) nr, new_ne h2 nr⟩
    rintro σ' H12 ⟨r, d1, d2, rfl, s12, nr, nd1, nd2, rd1, rd2, hr12, hd1, hd2⟩
    -- alike
    refine ⟨fun σ' H' => σ' = [some (.ref a), some (.ref b), some (.int (0 + (i : Nat))), some one, some other, some (.ref p1), some (.ref p2), some (.ref r), some (.ref rw), some (.ref wd)] ∧ Same H12 H', ?_, ?_⟩
    · refine ⟨p1, e1, p2, e2, .ref rw, .ref wd, rfl, rfl, s12 _ _ hp1', s12 _ _ hp2', Y1.kp (Kp.same s12), Y2.kp (Kp.same s12), fun H13 p f g s13 np nf ng npf npg hp hf hg => ?_⟩
      have s := s12.trans s13
      have A1 := R1.keep fun b _ o h => s b o h
      have A2 := R2.keep fun b _ o h => s b o h
      obtain ⟨cs1, m1, w1, l1⟩ := shw_two A1 A2 hp hf hg (R1.fresh (same_none s12 nf)) (R2.fresh (same_none s12 nf)) (R1.fresh (same_none s12 ng)) (R2.fresh (same_none s12 ng)) (R1.fresh (same_none s12 np)) (R2.fresh (same_none s12 np)) npf npg
      obtain ⟨cs2, m2, w2, l2⟩ := shw_two A1 A2 (s13 _ _ hr12) (s13 _ _ hd1) (s13 _ _ hd2) (R1.fresh nd1) (R2.fresh nd1) (R1.fresh nd2) (R2.fresh nd2) (R1.fresh nr) (R2.fresh nr) rd1 rd2
      exact ⟨.ref r, rfl, p, r, _, _, 2, 8, cs1, cs2, _, m1, m2, rfl, hp, s13 _ _ hr12, by decide, eq_two kr1 kr2 hp (s13 _ _ hr12) hf hg (s13 _ _ hd1) (s13 _ _ hd2), w1, w2, by decide, by omega, by omega, true, rfl, rfl, s13⟩
    rintro σ' H13 ⟨rfl, s13⟩
    have s := s12.trans s13
    have B13 := hB11.same s
    have O13 := O11.same s
    have hp1 := s _ _ hp1'
    have hp2 := s _ _ hp2'
    have hrw13 := s _ _ hrw11
    have Z1 := Y1.kp (Kp.same s)
    have Z2 := Y2.kp (Kp.same s)
    clear hp1' hp2' hrw11 hwd11 S111 S211 Y1 Y2 R1 R2 hr12 hd1 hd2 s12 s13 nr nd1 nd2 hB11 O11 s
    -- rows.clear
    refine ⟨fun σ' H' => σ' = [some (.ref a), some (.ref b), some (.int (0 + (i : Nat))), some one, some other, some (.ref p1), some (.ref p2), some (.ref r), some (.ref rw), some (.ref wd)] ∧ H' = upd H13 rw (.lst []), ?_, ?_⟩
    · exact ⟨_, rfl, .inl ⟨rfl, _, .inl (.inl hrw13)⟩, rw, _, rfl, rfl, hrw13, rfl, rfl⟩
    rintro σ' H14 ⟨rfl, rfl⟩
    obtain ⟨B14, _⟩ := B13.set (o := .lst []) O13 rwb rwl
    have hp1' : upd H13 rw (.lst []) p1 = some (.lst (refs e1)) := by rw [upd_ne p1r]; exact hp1
    have hp2' : upd H13 rw (.lst []) p2 = some (.lst (refs e2)) := by rw [upd_ne p2r]; exact hp2
    have Y1 := Z1.kp (Kp.lst (o := .lst []) hrw13)
    have Y2 := Z2.kp (Kp.lst (o := .lst []) hrw13)
    have hrw14 : upd H13 rw (.lst []) rw = some (.lst []) := upd_same
    generalize upd H13 rw (.lst []) = H14 at *
    -- repr
    have e0 : (!decide (V.str (listText []) = V.str (PySem.Str.ofString "[]"))) = false := by
      rw [decide_eq_true (show V.str (listText []) = V.str (PySem.Str.ofString "[]") from rfl)]
      rfl
    refine ⟨_, rfl, p1, e1, .ref rw, .ref wd, rfl, hp1', Y1, fun H15 f1 s15 _ hf1 => ⟨f1, _, 2, .ref rw, rfl, rfl, .inl (.inl hf1), rfl, ?_⟩⟩
    refine ⟨rw, 1, _, _, _, rfl, ⟨[], s15 _ _ hrw14⟩, .lst (d := 0) (s15 _ _ hrw14) .nil (by simp) .nil, by decide, by decide, rfl, _, rfl, ?_⟩
    rw [e0]
    refine ⟨_, rfl, p2, e2, .ref wd, .ref rw, rfl, s15 _ _ hp2', Y2.kp (Kp.same s15), fun H16 f2 s16 _ hf2 => ⟨f2, _, 3, .ref rw, rfl, rfl, .inl (.inl hf2), rfl, ?_⟩⟩
    refine ⟨rw, 1, _, _, _, rfl, ⟨[], s16 _ _ (s15 _ _ hrw14)⟩, .lst (d := 0) (s16 _ _ (s15 _ _ hrw14)) .nil (by simp) .nil, by decide, by decide, rfl, _, rfl, ?_⟩
    rw [e0]
    exact ⟨⟨_, _, _, _, _, _, _, _, rfl⟩, (B14.same s15).same s16⟩
end
end V0
/-! What the top has written. -/
namespace V0
open PySem PySem.Spec PyProof.Rows L2
/-- what is said of each class alike -/
def comB (K : PySem.W.Frag) (C : Nat → Addr) (CP : Addr) (i : Nat) : Bool :=
  PySem.W.keepIn K (.ref (C i)) && (PySem.W.typeIn K (.ref (C i)) == some (.type "type")) && (PySem.W.subIn K (.ref (C i)) (.type "BaseException") == some true) &&
  (PySem.W.findIn K (.ref (C i)) "__getattribute__" == some (some (.builtin "BaseException.__getattribute__"))) && (PySem.W.findIn K (.ref (C i)) "__getattr__" == some none) && PySem.W.hasDictIn K (C i) &&
  (PySem.W.findIn K (.ref (C i)) "__class__" == some (some (.builtin "object.__class__"))) && (PySem.W.specialIn K (.builtin "object.__class__") "__get__" == some (some (.builtin "getset_descriptor.__get__"))) && (PySem.W.takesIn K (.builtin "object.__class__") == some true) &&
  (PySem.W.mroIn K (C i) (.type "object") == some true) && (PySem.W.findIn K (.ref (C i)) "__setattr__" == some (some (.builtin "object.__setattr__"))) &&
  (PySem.W.kitOne K (.ref (C i)) (.ref CP) == some true) && (PySem.W.kitOne K (.ref (C i)) (.type "ValueError") == some true) && (List.range 11).all fun j => PySem.W.kitOne K (.ref (C i)) (.ref (C j)) == some (decide (i = j))
structure Com (K : PySem.W.Frag) (C : Nat → Addr) (CP : Addr) (i : Nat) : Prop where
  kC : PySem.W.keepIn K (.ref (C i)) = true
  tyC : PySem.W.typeIn K (.ref (C i)) = some (.type "type")
  exC : PySem.W.subIn K (.ref (C i)) (.type "BaseException") = some true
  ec : ErC K (C i)
  sa : PySem.W.findIn K (.ref (C i)) "__setattr__" = some (some (.builtin "object.__setattr__"))
  kP : PySem.W.kitOne K (.ref (C i)) (.ref CP) = some true
  kV : PySem.W.kitOne K (.ref (C i)) (.type "ValueError") = some true
  kit : ∀ j, j < 11 → PySem.W.kitOne K (.ref (C i)) (.ref (C j)) = some (decide (i = j))
theorem com_of {K : PySem.W.Frag} {C : Nat → Addr} {CP : Addr} {i : Nat} (h : comB K C CP i = true) : Com K C CP i := by
  unfold comB at h
  simp only [Bool.and_eq_true, beq_iff_eq] at h
  obtain ⟨⟨⟨⟨⟨⟨⟨⟨⟨⟨⟨⟨⟨h1, h2⟩, h3⟩, h4⟩, h5⟩, h6⟩, h7⟩, h8⟩, h9⟩, h10⟩, h11⟩, h12⟩, h13⟩, h14⟩ := h
  exact ⟨h1, h2, h3, ⟨h4, h5, h3, h6, h7, h8, h9, h10⟩, h11, h12, h13, fun j hj => beq_iff_eq.mp (List.all_eq_true.mp h14 j (List.mem_range.mpr hj))⟩
theorem all_mk {P : Program} {w : World} {K : PySem.W.Frag} {h : Heap} {mg : PySem.Str → Option Value} {fa : Addr} (X : K.In h) (G : h.Ns mainGlobals mg) (hfa : mg "law" = some (.ref fa))
    {c0 : Addr} {c1 : Addr} {c2 : Addr} {c3 : Addr} {c4 : Addr} {c5 : Addr} {c6 : Addr} {c7 : Addr} {c8 : Addr} {c9 : Addr} {c10 : Addr} {cP : Addr} {i0 : Addr} {i1 : Addr} {i2 : Addr} {i3 : Addr} {i4 : Addr} {i5 : Addr} {i6 : Addr} {i7 : Addr} {fT : Addr} {fO : Addr} {fI : Addr} {fD : Addr} {fB : Addr} {fG : Addr} {fU : Addr} {fK : Addr} {fA : Addr} {fL : Addr} {fF : Addr} {fW : Addr} {nm0 q0 : PySem.Str} {N0 : Addr} {bs0 bm0 : List Value} {sn0 : List PySem.Str} {sub0 : List Value} {ab0 : Bool} {col0 : Option Bool} {dd0 : Option Addr} {ma0 mb0 mc0 md0 me0 : Option Value} {od0 an0 : Option Addr} {sl0 : Array (Option Value)} {oc0 kV0 dc0 pm0 cd0 ct0 : Value} {nm1 q1 : PySem.Str} {N1 : Addr} {bs1 bm1 : List Value} {sn1 : List PySem.Str} {sub1 : List Value} {ab1 : Bool} {col1 : Option Bool} {dd1 : Option Addr} {ma1 mb1 mc1 md1 me1 : Option Value} {od1 an1 : Option Addr} {sl1 : Array (Option Value)} {oc1 kV1 dc1 pm1 cd1 ct1 : Value} {nm2 q2 : PySem.Str} {N2 : Addr} {bs2 bm2 : List Value} {sn2 : List PySem.Str} {sub2 : List Value} {ab2 : Bool} {col2 : Option Bool} {dd2 : Option Addr} {ma2 mb2 mc2 md2 me2 : Option Value} {od2 an2 : Option Addr} {sl2 : Array (Option Value)} {oc2 kV2 dc2 pm2 cd2 ct2 : Value} {nm3 q3 : PySem.Str} {N3 : Addr} {bs3 bm3 : List Value} {sn3 : List PySem.Str} {sub3 : List Value} {ab3 : Bool} {col3 : Option Bool} {dd3 : Option Addr} {ma3 mb3 mc3 md3 me3 : Option Value} {od3 an3 : Option Addr} {sl3 : Array (Option Value)} {oc3 kV3 dc3 pm3 cd3 ct3 : Value} {nm4 q4 : PySem.Str} {N4 : Addr} {bs4 bm4 : List Value} {sn4 : List PySem.Str} {sub4 : List Value} {ab4 : Bool} {col4 : Option Bool} {dd4 : Option Addr} {ma4 mb4 mc4 md4 me4 : Option Value} {od4 an4 : Option Addr} {sl4 : Array (Option Value)} {oc4 kV4 dc4 pm4 cd4 ct4 : Value} {nm5 q5 : PySem.Str} {N5 : Addr} {bs5 bm5 : List Value} {sn5 : List PySem.Str} {sub5 : List Value} {ab5 : Bool} {col5 : Option Bool} {dd5 : Option Addr} {ma5 mb5 mc5 md5 me5 : Option Value} {od5 an5 : Option Addr} {sl5 : Array (Option Value)} {oc5 kV5 dc5 pm5 cd5 ct5 : Value} {nm6 q6 : PySem.Str} {N6 : Addr} {bs6 bm6 : List Value} {sn6 : List PySem.Str} {sub6 : List Value} {ab6 : Bool} {col6 : Option Bool} {dd6 : Option Addr} {ma6 mb6 mc6 md6 me6 : Option Value} {od6 an6 : Option Addr} {sl6 : Array (Option Value)} {oc6 kV6 dc6 pm6 cd6 ct6 : Value} {nm7 q7 : PySem.Str} {N7 : Addr} {bs7 bm7 : List Value} {sn7 : List PySem.Str} {sub7 : List Value} {ab7 : Bool} {col7 : Option Bool} {dd7 : Option Addr} {ma7 mb7 mc7 md7 me7 : Option Value} {od7 an7 : Option Addr} {sl7 : Array (Option Value)} {oc7 kV7 dc7 pm7 cd7 ct7 : Value} {odT anT : Option Addr} {slT : Array (Option Value)} {ocT kVT dcT pmT cdT ctT : Value} {odO anO : Option Addr} {slO : Array (Option Value)} {ocO kVO dcO pmO cdO ctO : Value} {odI anI : Option Addr} {slI : Array (Option Value)} {ocI kVI dcI pmI cdI ctI : Value} {odD anD : Option Addr} {slD : Array (Option Value)} {ocD kVD dcD pmD cdD ctD : Value} {odB anB : Option Addr} {slB : Array (Option Value)} {ocB kVB dcB pmB cdB ctB : Value} {odG anG : Option Addr} {slG : Array (Option Value)} {ocG kVG dcG pmG cdG ctG : Value} {odU anU : Option Addr} {slU : Array (Option Value)} {ocU kVU dcU pmU cdU ctU : Value} {odK anK : Option Addr} {slK : Array (Option Value)} {ocK kVK dcK pmK cdK ctK : Value} {odA anA : Option Addr} {slA : Array (Option Value)} {ocA kVA dcA pmA cdA ctA : Value} {odL anL : Option Addr} {slL : Array (Option Value)} {ocL kVL dcL pmL cdL ctL : Value} {odF anF : Option Addr} {slF : Array (Option Value)} {ocF kVF dcF pmF cdF ctF : Value} {odW anW : Option Addr} {slW : Array (Option Value)} {ocW kVW dcW pmW cdW ctW : Value}
    (n0 : PySem.W.nsIn K mainGlobals "Wrong" = some (some (.ref c0)))
    (n1 : PySem.W.nsIn K mainGlobals "NoRange" = some (some (.ref c1)))
    (n2 : PySem.W.nsIn K mainGlobals "NoText" = some (some (.ref c2)))
    (n3 : PySem.W.nsIn K mainGlobals "TooMany" = some (some (.ref c3)))
    (n4 : PySem.W.nsIn K mainGlobals "NotThere" = some (some (.ref c4)))
    (n5 : PySem.W.nsIn K mainGlobals "NoGeneration" = some (some (.ref c5)))
    (n6 : PySem.W.nsIn K mainGlobals "Doubled" = some (some (.ref c6)))
    (n7 : PySem.W.nsIn K mainGlobals "NoPack" = some (some (.ref c7)))
    (n8 : PySem.W.nsIn K mainGlobals "NoVersion" = some (some (.ref c8)))
    (n9 : PySem.W.nsIn K mainGlobals "PowerCut" = some (some (.ref c9)))
    (n10 : PySem.W.nsIn K mainGlobals "NoCommand" = some (some (.ref c10)))
    (nP : PySem.W.nsIn K mainGlobals "PackError" = some (some (.ref cP)))
    (x0 : K.lookup c0 = some (excClassObj nm0 q0 c0 N0 bs0 bm0 true sn0 sub0 ab0 col0 dd0 ma0 mb0 mc0 md0 me0 "ValueError.__new__"))
    (x1 : K.lookup c1 = some (excClassObj nm1 q1 c1 N1 bs1 bm1 true sn1 sub1 ab1 col1 dd1 ma1 mb1 mc1 md1 me1 "ValueError.__new__"))
    (x2 : K.lookup c2 = some (excClassObj nm2 q2 c2 N2 bs2 bm2 true sn2 sub2 ab2 col2 dd2 ma2 mb2 mc2 md2 me2 "ValueError.__new__"))
    (x3 : K.lookup c3 = some (excClassObj nm3 q3 c3 N3 bs3 bm3 true sn3 sub3 ab3 col3 dd3 ma3 mb3 mc3 md3 me3 "ValueError.__new__"))
    (x4 : K.lookup c4 = some (excClassObj nm4 q4 c4 N4 bs4 bm4 true sn4 sub4 ab4 col4 dd4 ma4 mb4 mc4 md4 me4 "ValueError.__new__"))
    (x5 : K.lookup c5 = some (excClassObj nm5 q5 c5 N5 bs5 bm5 true sn5 sub5 ab5 col5 dd5 ma5 mb5 mc5 md5 me5 "ValueError.__new__"))
    (x6 : K.lookup c6 = some (excClassObj nm6 q6 c6 N6 bs6 bm6 true sn6 sub6 ab6 col6 dd6 ma6 mb6 mc6 md6 me6 "ValueError.__new__"))
    (x7 : K.lookup c7 = some (excClassObj nm7 q7 c7 N7 bs7 bm7 true sn7 sub7 ab7 col7 dd7 ma7 mb7 mc7 md7 me7 "ValueError.__new__"))
    (j0 : PySem.W.findIn K (.ref c0) "__init__" = some (some (.ref i0)))
    (j1 : PySem.W.findIn K (.ref c1) "__init__" = some (some (.ref i1)))
    (j2 : PySem.W.findIn K (.ref c2) "__init__" = some (some (.ref i2)))
    (j3 : PySem.W.findIn K (.ref c3) "__init__" = some (some (.ref i3)))
    (j4 : PySem.W.findIn K (.ref c4) "__init__" = some (some (.ref i4)))
    (j5 : PySem.W.findIn K (.ref c5) "__init__" = some (some (.ref i5)))
    (j6 : PySem.W.findIn K (.ref c6) "__init__" = some (some (.ref i6)))
    (j7 : PySem.W.findIn K (.ref c7) "__init__" = some (some (.ref i7)))
    (m0 : K.lookup i0 = some ⟨oc0, od0, .func (PySem.W.fnOf "__init__" "Wrong.__init__" (defArgs (inClass (topS 2) 0)) (defBody (inClass (topS 2) 0)) (defScope (inClass (topS 2) 0)) .none kV0 dc0 pm0 an0 cd0 ct0), sl0⟩)
    (m1 : K.lookup i1 = some ⟨oc1, od1, .func (PySem.W.fnOf "__init__" "NoRange.__init__" (defArgs (inClass (topS 4) 0)) (defBody (inClass (topS 4) 0)) (defScope (inClass (topS 4) 0)) .none kV1 dc1 pm1 an1 cd1 ct1), sl1⟩)
    (m2 : K.lookup i2 = some ⟨oc2, od2, .func (PySem.W.fnOf "__init__" "NoText.__init__" (defArgs (inClass (topS 5) 0)) (defBody (inClass (topS 5) 0)) (defScope (inClass (topS 5) 0)) .none kV2 dc2 pm2 an2 cd2 ct2), sl2⟩)
    (m3 : K.lookup i3 = some ⟨oc3, od3, .func (PySem.W.fnOf "__init__" "TooMany.__init__" (defArgs (inClass (topS 8) 0)) (defBody (inClass (topS 8) 0)) (defScope (inClass (topS 8) 0)) .none kV3 dc3 pm3 an3 cd3 ct3), sl3⟩)
    (m4 : K.lookup i4 = some ⟨oc4, od4, .func (PySem.W.fnOf "__init__" "NotThere.__init__" (defArgs (inClass (topS 9) 0)) (defBody (inClass (topS 9) 0)) (defScope (inClass (topS 9) 0)) .none kV4 dc4 pm4 an4 cd4 ct4), sl4⟩)
    (m5 : K.lookup i5 = some ⟨oc5, od5, .func (PySem.W.fnOf "__init__" "NoGeneration.__init__" (defArgs (inClass (topS 11) 0)) (defBody (inClass (topS 11) 0)) (defScope (inClass (topS 11) 0)) .none kV5 dc5 pm5 an5 cd5 ct5), sl5⟩)
    (m6 : K.lookup i6 = some ⟨oc6, od6, .func (PySem.W.fnOf "__init__" "Doubled.__init__" (defArgs (inClass (topS 6) 0)) (defBody (inClass (topS 6) 0)) (defScope (inClass (topS 6) 0)) .none kV6 dc6 pm6 an6 cd6 ct6), sl6⟩)
    (m7 : K.lookup i7 = some ⟨oc7, od7, .func (PySem.W.fnOf "__init__" "NoPack.__init__" (defArgs (inClass (topS 7) 0)) (defBody (inClass (topS 7) 0)) (defScope (inClass (topS 7) 0)) .none kV7 dc7 pm7 an7 cd7 ct7), sl7⟩)
    (gT : PySem.W.nsIn K mainGlobals "_law_take" = some (some (.ref fT)))
    (gO : PySem.W.nsIn K mainGlobals "_law_one" = some (some (.ref fO)))
    (gI : PySem.W.nsIn K mainGlobals "_law_integer" = some (some (.ref fI)))
    (gD : PySem.W.nsIn K mainGlobals "_law_odd" = some (some (.ref fD)))
    (gB : PySem.W.nsIn K mainGlobals "_law_bent" = some (some (.ref fB)))
    (gG : PySem.W.nsIn K mainGlobals "_law_bag" = some (some (.ref fG)))
    (gU : PySem.W.nsIn K mainGlobals "_law_built" = some (some (.ref fU)))
    (gK : PySem.W.nsIn K mainGlobals "_law_kinds" = some (some (.ref fK)))
    (gA : PySem.W.nsIn K mainGlobals "_law_are_apart" = some (some (.ref fA)))
    (gL : PySem.W.nsIn K mainGlobals "_law_alike" = some (some (.ref fL)))
    (gF : PySem.W.nsIn K mainGlobals "_law_fields" = some (some (.ref fF)))
    (gW : PySem.W.nsIn K mainGlobals "law" = some (some (.ref fW)))
    (lT : K.lookup fT = some ⟨ocT, odT, .func (PySem.W.fnOf "_law_take" "_law_take" (defArgs sTake) (defBody sTake) (defScope sTake) .none kVT dcT pmT anT cdT ctT), slT⟩)
    (lO : K.lookup fO = some ⟨ocO, odO, .func (PySem.W.fnOf "_law_one" "_law_one" (defArgs sOne) (defBody sOne) (defScope sOne) .none kVO dcO pmO anO cdO ctO), slO⟩)
    (lI : K.lookup fI = some ⟨ocI, odI, .func (PySem.W.fnOf "_law_integer" "_law_integer" (defArgs sInteger) (defBody sInteger) (defScope sInteger) .none kVI dcI pmI anI cdI ctI), slI⟩)
    (lD : K.lookup fD = some ⟨ocD, odD, .func (PySem.W.fnOf "_law_odd" "_law_odd" (defArgs sOdd) (defBody sOdd) (defScope sOdd) .none kVD dcD pmD anD cdD ctD), slD⟩)
    (lB : K.lookup fB = some ⟨ocB, odB, .func (PySem.W.fnOf "_law_bent" "_law_bent" (defArgs sBent) (defBody sBent) (defScope sBent) .none kVB dcB pmB anB cdB ctB), slB⟩)
    (lG : K.lookup fG = some ⟨ocG, odG, .func (PySem.W.fnOf "_law_bag" "_law_bag" (defArgs sBag) (defBody sBag) (defScope sBag) .none kVG dcG pmG anG cdG ctG), slG⟩)
    (lU : K.lookup fU = some ⟨ocU, odU, .func (PySem.W.fnOf "_law_built" "_law_built" (defArgs sBuilt) (defBody sBuilt) (defScope sBuilt) .none kVU dcU pmU anU cdU ctU), slU⟩)
    (lK : K.lookup fK = some ⟨ocK, odK, .func (PySem.W.fnOf "_law_kinds" "_law_kinds" (defArgs sKinds) (defBody sKinds) (defScope sKinds) .none kVK dcK pmK anK cdK ctK), slK⟩)
    (lA : K.lookup fA = some ⟨ocA, odA, .func (PySem.W.fnOf "_law_are_apart" "_law_are_apart" (defArgs sApart) (defBody sApart) (defScope sApart) .none kVA dcA pmA anA cdA ctA), slA⟩)
    (lL : K.lookup fL = some ⟨ocL, odL, .func (PySem.W.fnOf "_law_alike" "_law_alike" (defArgs sAlike) (defBody sAlike) (defScope sAlike) .none kVL dcL pmL anL cdL ctL), slL⟩)
    (lF : K.lookup fF = some ⟨ocF, odF, .func (PySem.W.fnOf "_law_fields" "_law_fields" (defArgs sFields) (defBody sFields) (defScope sFields) .none kVF dcF pmF anF cdF ctF), slF⟩)
    (lW : K.lookup fW = some ⟨ocW, odW, .func (PySem.W.fnOf "law" "law" (defArgs sLaw) (defBody sLaw) (defScope sLaw) .none kVW dcW pmW anW cdW ctW), slW⟩)
    (y8 : PySem.W.excIn K c8 [.type "ValueError", .type "Exception", .type "BaseException", .type "object"] "ValueError.__new__" = true)
    (y9 : PySem.W.excIn K c9 [.type "ValueError", .type "Exception", .type "BaseException", .type "object"] "ValueError.__new__" = true)
    (y10 : PySem.W.excIn K c10 [.type "ValueError", .type "Exception", .type "BaseException", .type "object"] "ValueError.__new__" = true)
    (BC : ((List.range 11).all fun i => comB K (fun n => [c0, c1, c2, c3, c4, c5, c6, c7, c8, c9, c10].getD n 0) cP i) = true)
    (b0 : ((PySem.W.typeIn K (.ref i0) == some (.type "function")) && PySem.W.keepIn K (.ref i0) && PySem.W.codeIn K cd0 "Wrong.__init__" && PySem.HandSPX.refsVE bm0 && (PySem.W.findIn K (.ref c0) "place" == some none)) = true)
    (b1 : ((PySem.W.typeIn K (.ref i1) == some (.type "function")) && PySem.W.keepIn K (.ref i1) && PySem.W.codeIn K cd1 "NoRange.__init__" && PySem.HandSPX.refsVE bm1 && (PySem.W.findIn K (.ref c1) "place" == some none)) = true)
    (b2 : ((PySem.W.typeIn K (.ref i2) == some (.type "function")) && PySem.W.keepIn K (.ref i2) && PySem.W.codeIn K cd2 "NoText.__init__" && PySem.HandSPX.refsVE bm2 && (PySem.W.findIn K (.ref c2) "line" == some none)) = true)
    (b3 : ((PySem.W.typeIn K (.ref i3) == some (.type "function")) && PySem.W.keepIn K (.ref i3) && PySem.W.codeIn K cd3 "TooMany.__init__" && PySem.HandSPX.refsVE bm3 && (PySem.W.findIn K (.ref c3) "most" == some none)) = true)
    (b4 : ((PySem.W.typeIn K (.ref i4) == some (.type "function")) && PySem.W.keepIn K (.ref i4) && PySem.W.codeIn K cd4 "NotThere.__init__" && PySem.HandSPX.refsVE bm4 && (PySem.W.findIn K (.ref c4) "name" == some none)) = true)
    (b5 : ((PySem.W.typeIn K (.ref i5) == some (.type "function")) && PySem.W.keepIn K (.ref i5) && PySem.W.codeIn K cd5 "NoGeneration.__init__" && PySem.HandSPX.refsVE bm5 && (PySem.W.findIn K (.ref c5) "number" == some none)) = true)
    (b6 : ((PySem.W.typeIn K (.ref i6) == some (.type "function")) && PySem.W.keepIn K (.ref i6) && PySem.W.codeIn K cd6 "Doubled.__init__" && PySem.HandSPX.refsVE bm6 && (PySem.W.findIn K (.ref c6) "name" == some none) && (PySem.W.findIn K (.ref c6) "version" == some none)) = true)
    (b7 : ((PySem.W.typeIn K (.ref i7) == some (.type "function")) && PySem.W.keepIn K (.ref i7) && PySem.W.codeIn K cd7 "NoPack.__init__" && PySem.HandSPX.refsVE bm7 && (PySem.W.findIn K (.ref c7) "name" == some none) && (PySem.W.findIn K (.ref c7) "version" == some none)) = true)
    (kT : (PySem.W.codeIn K cdT "_law_take" && PySem.W.keepIn K (.ref fT)) = true)
    (kO : (PySem.W.codeIn K cdO "_law_one" && PySem.W.keepIn K (.ref fO)) = true)
    (kI : (PySem.W.codeIn K cdI "_law_integer" && PySem.W.keepIn K (.ref fI)) = true)
    (kD : (PySem.W.codeIn K cdD "_law_odd" && PySem.W.keepIn K (.ref fD)) = true)
    (kB : (PySem.W.codeIn K cdB "_law_bent" && PySem.W.keepIn K (.ref fB)) = true)
    (kG : (PySem.W.codeIn K cdG "_law_bag" && PySem.W.keepIn K (.ref fG)) = true)
    (kU : (PySem.W.codeIn K cdU "_law_built" && PySem.W.keepIn K (.ref fU)) = true)
    (kK : (PySem.W.codeIn K cdK "_law_kinds" && PySem.W.keepIn K (.ref fK)) = true)
    (kA : (PySem.W.codeIn K cdA "_law_are_apart" && PySem.W.keepIn K (.ref fA)) = true)
    (kL : (PySem.W.codeIn K cdL "_law_alike" && PySem.W.keepIn K (.ref fL)) = true)
    (kF : (PySem.W.codeIn K cdF "_law_fields" && PySem.W.keepIn K (.ref fF)) = true)
    (kW : (PySem.W.codeIn K cdW "law" && PySem.W.keepIn K (.ref fW)) = true)
    (BN : ([("int" : PySem.Str), ("len" : PySem.Str), ("isinstance" : PySem.Str), ("bool" : PySem.Str), ("str" : PySem.Str), ("tuple" : PySem.Str), ("list" : PySem.Str), ("abs" : PySem.Str), ("repr" : PySem.Str), ("range" : PySem.Str), ("enumerate" : PySem.Str), ("ValueError" : PySem.Str)].all fun x => PySem.W.nsIn K mainGlobals x == some none) = true) :
    ∃ fd : FuncData, (∀ (s : Shared) (v : Value), BindsTo s fd ⟨[v], []⟩ [("script", v)]) ∧ ∀ base : Heap, K.In base → base.Ns mainGlobals mg → Ok0 P w K mg base 9 fa fd ["script"] (spLaw K) := by
  have e := hfa.symm.trans (PySem.W.mg_of X G gW)
  cases e
  have com : ∀ i, i < 11 → Com K (fun n => [c0, c1, c2, c3, c4, c5, c6, c7, c8, c9, c10].getD n 0) cP i := fun i hi => com_of (List.all_eq_true.mp BC i (List.mem_range.mpr hi))
  have nn : ∀ x : PySem.Str, x ∈ [("int" : PySem.Str), ("len" : PySem.Str), ("isinstance" : PySem.Str), ("bool" : PySem.Str), ("str" : PySem.Str), ("tuple" : PySem.Str), ("list" : PySem.Str), ("abs" : PySem.Str), ("repr" : PySem.Str), ("range" : PySem.Str), ("enumerate" : PySem.Str), ("ValueError" : PySem.Str)] → mg x = none := fun x hx => PySem.W.mg_none_of X G (beq_iff_eq.mp (List.all_eq_true.mp BN x hx))
  have kT' := Bool.and_eq_true_iff.mp kT
  have FT := fun_mk (st := sTake) lT kT'.1 kT'.2
  have bT := FT.binds (ps := ["bag", "many"]) fun _ _ _ _ _ _ us hl => match us, hl with | [_, _], _ => rfl
  have kO' := Bool.and_eq_true_iff.mp kO
  have FO := fun_mk (st := sOne) lO kO'.1 kO'.2
  have bO := FO.binds (ps := ["bag", "things"]) fun _ _ _ _ _ _ us hl => match us, hl with | [_, _], _ => rfl
  have kI' := Bool.and_eq_true_iff.mp kI
  have FI := fun_mk (st := sInteger) lI kI'.1 kI'.2
  have bI := FI.binds (ps := ["thing"]) fun _ _ _ _ _ _ us hl => match us, hl with | [_], _ => rfl
  have kD' := Bool.and_eq_true_iff.mp kD
  have FD := fun_mk (st := sOdd) lD kD'.1 kD'.2
  have bD := FD.binds (ps := ["bag"]) fun _ _ _ _ _ _ us hl => match us, hl with | [_], _ => rfl
  have kB' := Bool.and_eq_true_iff.mp kB
  have FB := fun_mk (st := sBent) lB kB'.1 kB'.2
  have bB := FB.binds (ps := ["bag", "thing", "deep"]) fun _ _ _ _ _ _ us hl => match us, hl with | [_, _, _], _ => rfl
  have kG' := Bool.and_eq_true_iff.mp kG
  have FG := fun_mk (st := sBag) lG kG'.1 kG'.2
  have bG := FG.binds (ps := ["script"]) fun _ _ _ _ _ _ us hl => match us, hl with | [_], _ => rfl
  have kU' := Bool.and_eq_true_iff.mp kU
  have FU := fun_mk (st := sBuilt) lU kU'.1 kU'.2
  have bU := FU.binds (ps := ["one", "other"]) fun _ _ _ _ _ _ us hl => match us, hl with | [_, _], _ => rfl
  have kK' := Bool.and_eq_true_iff.mp kK
  have FK := fun_mk (st := sKinds) lK kK'.1 kK'.2
  have bK := FK.binds (ps := ["error"]) fun _ _ _ _ _ _ us hl => match us, hl with | [_], _ => rfl
  have kA' := Bool.and_eq_true_iff.mp kA
  have FA := fun_mk (st := sApart) lA kA'.1 kA'.2
  have bA := FA.binds (ps := ["some"]) fun _ _ _ _ _ _ us hl => match us, hl with | [_], _ => rfl
  have kL' := Bool.and_eq_true_iff.mp kL
  have FL := fun_mk (st := sAlike) lL kL'.1 kL'.2
  have bL := FL.binds (ps := ["found", "due"]) fun _ _ _ _ _ _ us hl => match us, hl with | [_, _], _ => rfl
  have kF' := Bool.and_eq_true_iff.mp kF
  have FF := fun_mk (st := sFields) lF kF'.1 kF'.2
  have bF := FF.binds (ps := ["some"]) fun _ _ _ _ _ _ us hl => match us, hl with | [_], _ => rfl
  have kW' := Bool.and_eq_true_iff.mp kW
  have FW := fun_mk (st := sLaw) lW kW'.1 kW'.2
  simp only [Bool.and_eq_true, beq_iff_eq] at b0
  obtain ⟨⟨⟨⟨t0, u0⟩, v0⟩, r0⟩, w0⟩ := b0
  have E0 := fun_mk (st := (inClass (topS 2) 0)) m0 v0 u0
  have d0 := E0.binds (ps := ["self", "place"]) fun _ _ _ _ _ _ us hl => match us, hl with | [_, _], _ => rfl
  have C0 := com 0 (by decide)
  have O0 : OexC K c0 := ⟨⟨_, _, _, _, _, _, _, _, _, _, _, _, _, _, _, x0, r0⟩, C0.sa, C0.exC, C0.tyC, C0.kC⟩
  simp only [Bool.and_eq_true, beq_iff_eq] at b1
  obtain ⟨⟨⟨⟨t1, u1⟩, v1⟩, r1⟩, w1⟩ := b1
  have E1 := fun_mk (st := (inClass (topS 4) 0)) m1 v1 u1
  have d1 := E1.binds (ps := ["self", "place"]) fun _ _ _ _ _ _ us hl => match us, hl with | [_, _], _ => rfl
  have C1 := com 1 (by decide)
  have O1 : OexC K c1 := ⟨⟨_, _, _, _, _, _, _, _, _, _, _, _, _, _, _, x1, r1⟩, C1.sa, C1.exC, C1.tyC, C1.kC⟩
  simp only [Bool.and_eq_true, beq_iff_eq] at b2
  obtain ⟨⟨⟨⟨t2, u2⟩, v2⟩, r2⟩, w2⟩ := b2
  have E2 := fun_mk (st := (inClass (topS 5) 0)) m2 v2 u2
  have d2 := E2.binds (ps := ["self", "line"]) fun _ _ _ _ _ _ us hl => match us, hl with | [_, _], _ => rfl
  have C2 := com 2 (by decide)
  have O2 : OexC K c2 := ⟨⟨_, _, _, _, _, _, _, _, _, _, _, _, _, _, _, x2, r2⟩, C2.sa, C2.exC, C2.tyC, C2.kC⟩
  simp only [Bool.and_eq_true, beq_iff_eq] at b3
  obtain ⟨⟨⟨⟨t3, u3⟩, v3⟩, r3⟩, w3⟩ := b3
  have E3 := fun_mk (st := (inClass (topS 8) 0)) m3 v3 u3
  have d3 := E3.binds (ps := ["self", "most"]) fun _ _ _ _ _ _ us hl => match us, hl with | [_, _], _ => rfl
  have C3 := com 3 (by decide)
  have O3 : OexC K c3 := ⟨⟨_, _, _, _, _, _, _, _, _, _, _, _, _, _, _, x3, r3⟩, C3.sa, C3.exC, C3.tyC, C3.kC⟩
  simp only [Bool.and_eq_true, beq_iff_eq] at b4
  obtain ⟨⟨⟨⟨t4, u4⟩, v4⟩, r4⟩, w4⟩ := b4
  have E4 := fun_mk (st := (inClass (topS 9) 0)) m4 v4 u4
  have d4 := E4.binds (ps := ["self", "name"]) fun _ _ _ _ _ _ us hl => match us, hl with | [_, _], _ => rfl
  have C4 := com 4 (by decide)
  have O4 : OexC K c4 := ⟨⟨_, _, _, _, _, _, _, _, _, _, _, _, _, _, _, x4, r4⟩, C4.sa, C4.exC, C4.tyC, C4.kC⟩
  simp only [Bool.and_eq_true, beq_iff_eq] at b5
  obtain ⟨⟨⟨⟨t5, u5⟩, v5⟩, r5⟩, w5⟩ := b5
  have E5 := fun_mk (st := (inClass (topS 11) 0)) m5 v5 u5
  have d5 := E5.binds (ps := ["self", "number"]) fun _ _ _ _ _ _ us hl => match us, hl with | [_, _], _ => rfl
  have C5 := com 5 (by decide)
  have O5 : OexC K c5 := ⟨⟨_, _, _, _, _, _, _, _, _, _, _, _, _, _, _, x5, r5⟩, C5.sa, C5.exC, C5.tyC, C5.kC⟩
  simp only [Bool.and_eq_true, beq_iff_eq] at b6
  obtain ⟨⟨⟨⟨⟨t6, u6⟩, v6⟩, r6⟩, w6⟩, z6⟩ := b6
  have E6 := fun_mk (st := (inClass (topS 6) 0)) m6 v6 u6
  have d6 := E6.binds (ps := ["self", "name", "version"]) fun _ _ _ _ _ _ us hl => match us, hl with | [_, _, _], _ => rfl
  have C6 := com 6 (by decide)
  have O6 : OexC K c6 := ⟨⟨_, _, _, _, _, _, _, _, _, _, _, _, _, _, _, x6, r6⟩, C6.sa, C6.exC, C6.tyC, C6.kC⟩
  simp only [Bool.and_eq_true, beq_iff_eq] at b7
  obtain ⟨⟨⟨⟨⟨t7, u7⟩, v7⟩, r7⟩, w7⟩, z7⟩ := b7
  have E7 := fun_mk (st := (inClass (topS 7) 0)) m7 v7 u7
  have d7 := E7.binds (ps := ["self", "name", "version"]) fun _ _ _ _ _ _ us hl => match us, hl with | [_, _, _], _ => rfl
  have C7 := com 7 (by decide)
  have O7 : OexC K c7 := ⟨⟨_, _, _, _, _, _, _, _, _, _, _, _, _, _, _, x7, r7⟩, C7.sa, C7.exC, C7.tyC, C7.kC⟩
  have C8 := com 8 (by decide)
  have C9 := com 9 (by decide)
  have C10 := com 10 (by decide)
  have T : Errs K mg (fun n => [c0, c1, c2, c3, c4, c5, c6, c7, c8, c9, c10].getD n 0) (fun n => [i0, i1, i2, i3, i4, i5, i6, i7].getD n 0) (fun n => [(PySem.W.fnOf "__init__" "Wrong.__init__" (defArgs (inClass (topS 2) 0)) (defBody (inClass (topS 2) 0)) (defScope (inClass (topS 2) 0)) .none kV0 dc0 pm0 an0 cd0 ct0), (PySem.W.fnOf "__init__" "NoRange.__init__" (defArgs (inClass (topS 4) 0)) (defBody (inClass (topS 4) 0)) (defScope (inClass (topS 4) 0)) .none kV1 dc1 pm1 an1 cd1 ct1), (PySem.W.fnOf "__init__" "NoText.__init__" (defArgs (inClass (topS 5) 0)) (defBody (inClass (topS 5) 0)) (defScope (inClass (topS 5) 0)) .none kV2 dc2 pm2 an2 cd2 ct2), (PySem.W.fnOf "__init__" "TooMany.__init__" (defArgs (inClass (topS 8) 0)) (defBody (inClass (topS 8) 0)) (defScope (inClass (topS 8) 0)) .none kV3 dc3 pm3 an3 cd3 ct3), (PySem.W.fnOf "__init__" "NotThere.__init__" (defArgs (inClass (topS 9) 0)) (defBody (inClass (topS 9) 0)) (defScope (inClass (topS 9) 0)) .none kV4 dc4 pm4 an4 cd4 ct4), (PySem.W.fnOf "__init__" "NoGeneration.__init__" (defArgs (inClass (topS 11) 0)) (defBody (inClass (topS 11) 0)) (defScope (inClass (topS 11) 0)) .none kV5 dc5 pm5 an5 cd5 ct5), (PySem.W.fnOf "__init__" "Doubled.__init__" (defArgs (inClass (topS 6) 0)) (defBody (inClass (topS 6) 0)) (defScope (inClass (topS 6) 0)) .none kV6 dc6 pm6 an6 cd6 ct6), (PySem.W.fnOf "__init__" "NoPack.__init__" (defArgs (inClass (topS 7) 0)) (defBody (inClass (topS 7) 0)) (defScope (inClass (topS 7) 0)) .none kV7 dc7 pm7 an7 cd7 ct7)].getD n (PySem.W.fnOf "__init__" "Wrong.__init__" (defArgs (inClass (topS 2) 0)) (defBody (inClass (topS 2) 0)) (defScope (inClass (topS 2) 0)) .none kV0 dc0 pm0 an0 cd0 ct0)) cP :=
    ⟨⟨PySem.W.mg_of X G n0, O0, C0.ec, j0, t0, w0, E0, d0⟩,
      ⟨PySem.W.mg_of X G n1, O1, C1.ec, j1, t1, w1, E1, d1⟩,
      ⟨PySem.W.mg_of X G n2, O2, C2.ec, j2, t2, w2, E2, d2⟩,
      ⟨PySem.W.mg_of X G n3, O3, C3.ec, j3, t3, w3, E3, d3⟩,
      ⟨PySem.W.mg_of X G n4, O4, C4.ec, j4, t4, w4, E4, d4⟩,
      ⟨PySem.W.mg_of X G n5, O5, C5.ec, j5, t5, w5, E5, d5⟩,
      ⟨PySem.W.mg_of X G n6, O6, C6.ec, j6, t6, w6, z6, E6, d6⟩,
      ⟨PySem.W.mg_of X G n7, O7, C7.ec, j7, t7, w7, z7, E7, d7⟩,
      ⟨PySem.W.mg_of X G n8, y8, C8.kC, C8.ec⟩,
      ⟨PySem.W.mg_of X G n9, y9, C9.kC, C9.ec⟩,
      ⟨PySem.W.mg_of X G n10, y10, C10.kC, C10.ec⟩,
      fun i j hi hj => (com i hi).kit j hj, PySem.W.mg_of X G nP, fun i hi => (com i hi).kP, fun i hi => (com i hi).kV⟩
  have B : Fns K mg fT fO fI fD fB _ _ _ _ _ := ⟨FT, FO, FI, FD, FB, bT, bO, bI, bD, bB, PySem.W.mg_of X G gT, PySem.W.mg_of X G gO, PySem.W.mg_of X G gI, PySem.W.mg_of X G gD, PySem.W.mg_of X G gB, (nn "int" (by decide +kernel)), (nn "len" (by decide +kernel)), (nn "isinstance" (by decide +kernel)), (nn "bool" (by decide +kernel)), (nn "str" (by decide +kernel)), (nn "tuple" (by decide +kernel)), (nn "list" (by decide +kernel))⟩
  have L : Lws K mg fT fO fI fD fB fG fU fK fA fL fF cP _ _ _ _ _ _ _ _ _ _ _ _ _ _ := ⟨B, T, FG, FU, FK, FA, FL, FF, bG, bU, bK, bA, bL, bF, PySem.W.mg_of X G gG, PySem.W.mg_of X G gU, PySem.W.mg_of X G gK, PySem.W.mg_of X G gA, PySem.W.mg_of X G gL, PySem.W.mg_of X G gF, (nn "abs" (by decide +kernel)), (nn "repr" (by decide +kernel)), (nn "range" (by decide +kernel)), (nn "enumerate" (by decide +kernel)), (nn "ValueError" (by decide +kernel))⟩
  exact ⟨PySem.W.fnOf "law" "law" (defArgs sLaw) (defBody sLaw) (defScope sLaw) .none kVW dcW pmW anW cdW ctW, fun s v => .of_eq rfl, fun base _ _ => ok_law FW L⟩
end V0
open PySem PySem.W PyProof.Rows
set_option maxHeartbeats 0 in
theorem PySem.Challenge.cw_packsworn_k00_errors_of_any_value_holds : PySem.Challenge.rw_packsworn_k00_errors_of_any_value.Holds := by
  w_on; o_law; k_head; (case hw => w_witness2)
  k_fill
  refine V0.walk_of0 (l := PySem.Challenge.rw_packsworn_k00_errors_of_any_value) (n := 63) (k := 9) (x := "script") (sp := fun K => V0.spLaw K) rfl (by decide) rfl ⟨rfl, by decide, by decide⟩ (fun w h Y => PySem.W.kIn_of Y) ?F (fun _ _ a ns hl _ hS => ⟨a, ns, rfl, hS, hl, fun _ => rfl⟩)
  case F =>
    intro w mg fa h KX G hmg
    refine' V0.all_mk KX G hmg ?n0 ?n1 ?n2 ?n3 ?n4 ?n5 ?n6 ?n7 ?n8 ?n9 ?n10 ?nP ?x0 ?x1 ?x2 ?x3 ?x4 ?x5 ?x6 ?x7 ?j0 ?j1 ?j2 ?j3 ?j4 ?j5 ?j6 ?j7 ?m0 ?m1 ?m2 ?m3 ?m4 ?m5 ?m6 ?m7 ?gT ?gO ?gI ?gD ?gB ?gG ?gU ?gK ?gA ?gL ?gF ?gW ?lT ?lO ?lI ?lD ?lB ?lG ?lU ?lK ?lA ?lL ?lF ?lW ?y8 ?y9 ?y10 ?BC ?b0 ?b1 ?b2 ?b3 ?b4 ?b5 ?b6 ?b7 ?kT ?kO ?kI ?kD ?kB ?kG ?kU ?kK ?kA ?kL ?kF ?kW ?BN
    (case n0 => first | k_is | k_exc | kernel_rfl)
    (case n1 => first | k_is | k_exc | kernel_rfl)
    (case n2 => first | k_is | k_exc | kernel_rfl)
    (case n3 => first | k_is | k_exc | kernel_rfl)
    (case n4 => first | k_is | k_exc | kernel_rfl)
    (case n5 => first | k_is | k_exc | kernel_rfl)
    (case n6 => first | k_is | k_exc | kernel_rfl)
    (case n7 => first | k_is | k_exc | kernel_rfl)
    (case n8 => first | k_is | k_exc | kernel_rfl)
    (case n9 => first | k_is | k_exc | kernel_rfl)
    (case n10 => first | k_is | k_exc | kernel_rfl)
    (case nP => first | k_is | k_exc | kernel_rfl)
    (case x0 => first | k_is | k_exc | kernel_rfl)
    (case x1 => first | k_is | k_exc | kernel_rfl)
    (case x2 => first | k_is | k_exc | kernel_rfl)
    (case x3 => first | k_is | k_exc | kernel_rfl)
    (case x4 => first | k_is | k_exc | kernel_rfl)
    (case x5 => first | k_is | k_exc | kernel_rfl)
    (case x6 => first | k_is | k_exc | kernel_rfl)
    (case x7 => first | k_is | k_exc | kernel_rfl)
    (case j0 => first | k_is | k_exc | kernel_rfl)
    (case j1 => first | k_is | k_exc | kernel_rfl)
    (case j2 => first | k_is | k_exc | kernel_rfl)
    (case j3 => first | k_is | k_exc | kernel_rfl)
    (case j4 => first | k_is | k_exc | kernel_rfl)
    (case j5 => first | k_is | k_exc | kernel_rfl)
    (case j6 => first | k_is | k_exc | kernel_rfl)
    (case j7 => first | k_is | k_exc | kernel_rfl)
    (case m0 => first | k_is | k_exc | kernel_rfl)
    (case m1 => first | k_is | k_exc | kernel_rfl)
    (case m2 => first | k_is | k_exc | kernel_rfl)
    (case m3 => first | k_is | k_exc | kernel_rfl)
    (case m4 => first | k_is | k_exc | kernel_rfl)
    (case m5 => first | k_is | k_exc | kernel_rfl)
    (case m6 => first | k_is | k_exc | kernel_rfl)
    (case m7 => first | k_is | k_exc | kernel_rfl)
    (case gT => first | k_is | k_exc | kernel_rfl)
    (case gO => first | k_is | k_exc | kernel_rfl)
    (case gI => first | k_is | k_exc | kernel_rfl)
    (case gD => first | k_is | k_exc | kernel_rfl)
    (case gB => first | k_is | k_exc | kernel_rfl)
    (case gG => first | k_is | k_exc | kernel_rfl)
    (case gU => first | k_is | k_exc | kernel_rfl)
    (case gK => first | k_is | k_exc | kernel_rfl)
    (case gA => first | k_is | k_exc | kernel_rfl)
    (case gL => first | k_is | k_exc | kernel_rfl)
    (case gF => first | k_is | k_exc | kernel_rfl)
    (case gW => first | k_is | k_exc | kernel_rfl)
    (case lT => first | k_is | k_exc | kernel_rfl)
    (case lO => first | k_is | k_exc | kernel_rfl)
    (case lI => first | k_is | k_exc | kernel_rfl)
    (case lD => first | k_is | k_exc | kernel_rfl)
    (case lB => first | k_is | k_exc | kernel_rfl)
    (case lG => first | k_is | k_exc | kernel_rfl)
    (case lU => first | k_is | k_exc | kernel_rfl)
    (case lK => first | k_is | k_exc | kernel_rfl)
    (case lA => first | k_is | k_exc | kernel_rfl)
    (case lL => first | k_is | k_exc | kernel_rfl)
    (case lF => first | k_is | k_exc | kernel_rfl)
    (case lW => first | k_is | k_exc | kernel_rfl)
    (case y8 => first | k_is | k_exc | kernel_rfl)
    (case y9 => first | k_is | k_exc | kernel_rfl)
    (case y10 => first | k_is | k_exc | kernel_rfl)
    (case BC => first | k_is | k_exc | kernel_rfl)
    (case b0 => first | k_is | k_exc | kernel_rfl)
    (case b1 => first | k_is | k_exc | kernel_rfl)
    (case b2 => first | k_is | k_exc | kernel_rfl)
    (case b3 => first | k_is | k_exc | kernel_rfl)
    (case b4 => first | k_is | k_exc | kernel_rfl)
    (case b5 => first | k_is | k_exc | kernel_rfl)
    (case b6 => first | k_is | k_exc | kernel_rfl)
    (case b7 => first | k_is | k_exc | kernel_rfl)
    (case kT => first | k_is | k_exc | kernel_rfl)
    (case kO => first | k_is | k_exc | kernel_rfl)
    (case kI => first | k_is | k_exc | kernel_rfl)
    (case kD => first | k_is | k_exc | kernel_rfl)
    (case kB => first | k_is | k_exc | kernel_rfl)
    (case kG => first | k_is | k_exc | kernel_rfl)
    (case kU => first | k_is | k_exc | kernel_rfl)
    (case kK => first | k_is | k_exc | kernel_rfl)
    (case kA => first | k_is | k_exc | kernel_rfl)
    (case kL => first | k_is | k_exc | kernel_rfl)
    (case kF => first | k_is | k_exc | kernel_rfl)
    (case kW => first | k_is | k_exc | kernel_rfl)
    (case BN => first | k_is | k_exc | kernel_rfl)
