import PyProof.Rows.All
import Wide.All
import OpenK.AllK
import Wide.FinOn
import PyProof.ReprReads
import PyProof.FitsInt
import KE.KExcIs
import HandS.ForMost
import HandS.ForExc
import HandS.ExcInit
import HandS.ExcOwn
import HandS.ExcValue
import HandS.DeepEq
import HandS.IsInst
import HandS.TupAny
import HandS.Conv
import HandS.Style
import HandS.FStrTup
import PyProof.CallFns
import KE.KEqNest
import HandS.Codes
import HandS.More
import HandS.Text
import HandS.FltList
import HandS.Walk
import HandS.StrMore
import HandS.FStr
import HandS.Deep
import HandS.TupSets
import HandS.Strs
import PySem.Challenge.RW_packsworn_k73_manifests_and_texts
set_option Elab.async false
set_option linter.all false
set_option maxRecDepth 100000
set_option maxHeartbeats 16000000
/-! What a value prints as, over the abstract heap: one relation over lists of values. -/
namespace RX
open PySem PySem.Spec PyProof.Rows L2

def kc (ks : List (Str × V)) : Nat := (ks.map fun p => 10 * p.1.length + 20).sum
/-- the texts that some values print as: depth at most d, the objects as that are met, the texts, what they cost -/
inductive Shw (H : Hp) : List V → Nat → List Addr → List Str → Nat → Prop
  | nil {d : Nat} : Shw H [] d [] [] 0
  | non {vs d as ts c} (r : Shw H vs d as ts c) : Shw H (.non :: vs) d as ("None" :: ts) (10 + c)
  | bl {vs d as ts c} (b : Bool) (r : Shw H vs d as ts c) : Shw H (.bl b :: vs) d as ((if b then "True" else "False" : String) :: ts) (10 + c)
  | int {vs d as ts c} (i : Int) (hi : i.natAbs < 10 ^ 60) (r : Shw H vs d as ts c) : Shw H (.int i :: vs) d as (toString i :: ts) (70 + c)
  | str {vs d as ts c} (x : Str) (hx : x.length ≤ 1000000) (hc : ∀ k ∈ x.cps.toList, k < 16 ^ 8) (r : Shw H vs d as ts c) : Shw H (.str x :: vs) d as (reprText x :: ts) (10 * x.length + 10 + c)
  | lst {vs d as ts c a xs bs us e} (h : H a = some (.lst xs)) (q : Shw H xs d bs us e) (hn : a ∉ bs) (r : Shw H vs (d + 1) as ts c) : Shw H (.ref a :: vs) (d + 1) ((a :: bs) ++ as) (listText us :: ts) (10 + e + c)
  | tup {vs d as ts c a xs bs us e} (h : H a = some (.tup xs)) (q : Shw H xs d bs us e) (hn : a ∉ bs) (r : Shw H vs (d + 1) as ts c) : Shw H (.ref a :: vs) (d + 1) ((a :: bs) ++ as) (tupleText us :: ts) (10 + e + c)
  | dic {vs d as ts c a bs us e} (ks : List (Str × V)) (h : H a = some (.dK (ks.map fun p => (Sum.inr p.1, p.2)))) (hk : ∀ p ∈ ks, p.1.length ≤ 1000000 ∧ ∀ k ∈ p.1.cps.toList, k < 16 ^ 8)
      (q : Shw H (ks.map (·.2)) d bs us e) (hn : a ∉ bs) (r : Shw H vs (d + 1) as ts c) :
      Shw H (.ref a :: vs) (d + 1) ((a :: bs) ++ as) (dictText (List.zipWith (fun p u => reprText p.1 ++ ": " ++ u) ks us) :: ts) (10 + kc ks + e + c)

variable {H H' : Hp} {vs ws : List V} {d d' : Nat} {as bs : List Addr} {ts us : List Str} {c e : Nat}
theorem Shw.len (h : Shw H vs d as ts c) : ts.length = vs.length := by
  induction h with
  | nil => rfl
  | _ => simp_all
theorem Shw.there (h : Shw H vs d as ts c) : ∀ b ∈ as, ∃ o, H b = some o := by
  induction h with
  | nil => intro b hb; cases hb
  | non r ih => exact ih
  | bl b r ih => exact ih
  | int i hi r ih => exact ih
  | str x hx hc r ih => exact ih
  | lst h q hn r i1 i2 =>
    intro b hb
    rcases List.mem_append.mp hb with z | z
    · rcases List.mem_cons.mp z with y | y
      · exact ⟨_, y ▸ h⟩
      · exact i1 b y
    · exact i2 b z
  | tup h q hn r i1 i2 =>
    intro b hb
    rcases List.mem_append.mp hb with z | z
    · rcases List.mem_cons.mp z with y | y
      · exact ⟨_, y ▸ h⟩
      · exact i1 b y
    · exact i2 b z
  | dic ks h hk q hn r i1 i2 =>
    intro b hb
    rcases List.mem_append.mp hb with z | z
    · rcases List.mem_cons.mp z with y | y
      · exact ⟨_, y ▸ h⟩
      · exact i1 b y
    · exact i2 b z
theorem Shw.fresh {p : Addr} (h : Shw H vs d as ts c) (hp : H p = none) : p ∉ as := fun hm => by
  obtain ⟨o, e⟩ := h.there p hm
  rw [hp] at e; cases e
/-- what is kept at the objects that are met -/
theorem Shw.keep (h : Shw H vs d as ts c) : (∀ b ∈ as, ∀ o, H b = some o → H' b = some o) → Shw H' vs d as ts c := by
  induction h with
  | nil => intro _; exact .nil
  | non r ih => intro k; exact .non (ih k)
  | bl b r ih => intro k; exact .bl b (ih k)
  | int i hi r ih => intro k; exact .int i hi (ih k)
  | str x hx hc r ih => intro k; exact .str x hx hc (ih k)
  | lst h q hn r i1 i2 =>
    intro k
    exact .lst (k _ (List.mem_append_left _ List.mem_cons_self) _ h) (i1 fun b hb => k b (List.mem_append_left _ (List.mem_cons_of_mem _ hb))) hn (i2 fun b hb => k b (List.mem_append_right _ hb))
  | tup h q hn r i1 i2 =>
    intro k
    exact .tup (k _ (List.mem_append_left _ List.mem_cons_self) _ h) (i1 fun b hb => k b (List.mem_append_left _ (List.mem_cons_of_mem _ hb))) hn (i2 fun b hb => k b (List.mem_append_right _ hb))
  | dic ks h hk q hn r i1 i2 =>
    intro k
    exact .dic ks (k _ (List.mem_append_left _ List.mem_cons_self) _ h) hk (i1 fun b hb => k b (List.mem_append_left _ (List.mem_cons_of_mem _ hb))) hn (i2 fun b hb => k b (List.mem_append_right _ hb))
theorem Shw.up1 (h : Shw H vs d as ts c) : Shw H vs (d + 1) as ts c := by
  induction h with
  | nil => exact .nil
  | non r ih => exact .non ih
  | bl b r ih => exact .bl b ih
  | int i hi r ih => exact .int i hi ih
  | str x hx hc r ih => exact .str x hx hc ih
  | lst h q hn r i1 i2 => exact .lst h i1 hn i2
  | tup h q hn r i1 i2 => exact .tup h i1 hn i2
  | dic ks h hk q hn r i1 i2 => exact .dic ks h hk i1 hn i2
theorem Shw.up (h : Shw H vs d as ts c) (hd : d ≤ d') : Shw H vs d' as ts c := by
  induction hd with
  | refl => exact h
  | step _ ih => exact ih.up1
/-- one more in front -/
theorem Shw.cons1 {v : V} (h : Shw H [v] d as ts c) : Shw H ws d bs us e → Shw H (v :: ws) d (as ++ bs) (ts ++ us) (c + e) := by
  intro q
  generalize hv : [v] = vs at h
  cases h with
  | nil => cases hv
  | non r => cases hv; cases r; simpa using Shw.non q
  | bl b r => cases hv; cases r; simpa using Shw.bl b q
  | int i hi r => cases hv; cases r; simpa using Shw.int i hi q
  | str x hx hc r => cases hv; cases r; simpa using Shw.str x hx hc q
  | lst h p hn r => cases hv; cases r; simpa using Shw.lst h p hn q
  | tup h p hn r => cases hv; cases r; simpa using Shw.tup h p hn q
  | dic ks h hk p hn r => cases hv; cases r; simpa using Shw.dic ks h hk p hn q
/-- each of them alone -/
theorem Shw.each (h : Shw H vs d as ts c) : ∀ v ∈ vs, ∃ as t e, Shw H [v] d as [t] e ∧ e ≤ c := by
  induction h with
  | nil => intro v hv; cases hv
  | non r ih =>
    intro v hv
    rcases List.mem_cons.mp hv with z | z
    · subst z
      exact ⟨_, _, _, Shw.non Shw.nil, by omega⟩
    · obtain ⟨as, t, e, q, l⟩ := ih v z
      exact ⟨as, t, e, q, by omega⟩
  | bl b r ih =>
    intro v hv
    rcases List.mem_cons.mp hv with z | z
    · subst z
      exact ⟨_, _, _, Shw.bl b Shw.nil, by omega⟩
    · obtain ⟨as, t, e, q, l⟩ := ih v z
      exact ⟨as, t, e, q, by omega⟩
  | int i hi r ih =>
    intro v hv
    rcases List.mem_cons.mp hv with z | z
    · subst z
      exact ⟨_, _, _, Shw.int i hi Shw.nil, by omega⟩
    · obtain ⟨as, t, e, q, l⟩ := ih v z
      exact ⟨as, t, e, q, by omega⟩
  | str x hx hc r ih =>
    intro v hv
    rcases List.mem_cons.mp hv with z | z
    · subst z
      exact ⟨_, _, _, Shw.str x hx hc Shw.nil, by omega⟩
    · obtain ⟨as, t, e, q, l⟩ := ih v z
      exact ⟨as, t, e, q, by omega⟩
  | lst h q hn r i1 i2 =>
    intro v hv
    rcases List.mem_cons.mp hv with z | z
    · subst z
      exact ⟨_, _, _, Shw.lst h q hn Shw.nil, by omega⟩
    · obtain ⟨as, t, e, q, l⟩ := i2 v z
      exact ⟨as, t, e, q, by omega⟩
  | tup h q hn r i1 i2 =>
    intro v hv
    rcases List.mem_cons.mp hv with z | z
    · subst z
      exact ⟨_, _, _, Shw.tup h q hn Shw.nil, by omega⟩
    · obtain ⟨as, t, e, q, l⟩ := i2 v z
      exact ⟨as, t, e, q, by omega⟩
  | dic ks h hk q hn r i1 i2 =>
    intro v hv
    rcases List.mem_cons.mp hv with z | z
    · subst z
      exact ⟨_, _, _, Shw.dic ks h hk q hn Shw.nil, by omega⟩
    · obtain ⟨as, t, e, q, l⟩ := i2 v z
      exact ⟨as, t, e, q, by omega⟩
/-- what a value is of which all this is said -/
theorem Shw.kind {v : V} (h : Shw H [v] d as ts c) : flatB v = true ∨ ∃ a, v = .ref a := by
  generalize hv : [v] = vs at h
  cases h with
  | nil => cases hv
  | non r => cases hv; exact .inl rfl
  | bl b r => cases hv; exact .inl rfl
  | int i hi r => cases hv; exact .inl rfl
  | str x hx hc r => cases hv; exact .inl rfl
  | lst h p hn r => cases hv; exact .inr ⟨_, rfl⟩
  | tup h p hn r => cases hv; exact .inr ⟨_, rfl⟩
  | dic ks h hk p hn r => cases hv; exact .inr ⟨_, rfl⟩
/-- v prints, at depth d at most, at cost B at most -/
def Pt (H : Hp) (d B : Nat) (v : V) : Prop := ∃ as t e, Shw H [v] d as [t] e ∧ e ≤ B
theorem Pt.mono {B B' : Nat} {v : V} (p : Pt H d B v) (hd : d ≤ d') (hB : B ≤ B') : Pt H d' B' v := by
  obtain ⟨as, t, e, q, l⟩ := p
  exact ⟨as, t, e, q.up hd, by omega⟩
theorem Pt.same {B : Nat} {v : V} (p : Pt H d B v) (k : ∀ b o, H b = some o → H' b = some o) : Pt H' d B v := by
  obtain ⟨as, t, e, q, l⟩ := p
  exact ⟨as, t, e, q.keep fun b _ => k b, l⟩
theorem Pt.all {B : Nat} : ∀ {vs : List V}, (∀ v ∈ vs, Pt H d B v) → ∃ as ts e, Shw H vs d as ts e ∧ e ≤ B * vs.length
  | [], _ => ⟨_, _, _, .nil, Nat.zero_le _⟩
  | v :: vs, h => by
    obtain ⟨as, t, e, q, l⟩ := h v List.mem_cons_self
    obtain ⟨bs, us, f, r, m⟩ := Pt.all (vs := vs) fun w hw => h w (List.mem_cons_of_mem _ hw)
    refine ⟨_, _, _, q.cons1 r, ?_⟩
    rw [List.length_cons, Nat.mul_succ]
    omega
theorem Pt.lst {B : Nat} {a : Addr} {xs : List V} (h : H a = some (.lst xs)) (k : ∀ v ∈ xs, ∃ d0, d0 < d ∧ Pt H d0 B v) (hf : ∀ as ts e, Shw H xs (d - 1) as ts e → a ∉ as) (hd : 0 < d) : Pt H d (10 + B * xs.length) (.ref a) := by
  obtain ⟨d0, rfl⟩ : ∃ d0, d = d0 + 1 := ⟨d - 1, by omega⟩
  obtain ⟨as, ts, e, q, l⟩ := Pt.all (H := H) (d := d0) (B := B) (vs := xs) fun v hv => by
    obtain ⟨d1, h1, p⟩ := k v hv
    exact p.mono (by omega) (Nat.le_refl _)
  exact ⟨_, _, _, .lst h q (hf _ _ _ q) .nil, by omega⟩
end RX
namespace RX
open PySem PySem.Spec PyProof.Rows L2
theorem list_len (ts : List Str) : (listText ts).length ≤ piled ts + 2 := by
  cases ts with
  | nil => decide +kernel
  | cons t r =>
    have e0 : (listText (t :: r)).length = (textFrom 1 ((("[" : Str) ++ ("" : String)) ++ t) r).length + 1 := by
      show (textFrom 1 ((("[" : Str) ++ ("" : String)) ++ t) r ++ "]").length = _
      rw [strLen_append]; rfl
    have e1 : ((("[" : Str) ++ ("" : String)) ++ t).length = 1 + t.length := by rw [strLen_append]; rfl
    rw [e0, textFrom_length_pos _ _ _ Nat.one_pos, e1, piled_cons]
    omega
theorem dict_len (ps : List Str) : (dictText ps).length ≤ piled ps + 2 := by
  have e : (dictText ps).length = 1 + (Str.join ", " ps).length + 1 := by
    unfold dictText
    rw [strLen_append, strLen_append]; rfl
  by_cases h : ps = []
  · subst h; decide +kernel
  · have := join_length_add ps h
    omega
theorem zip_len : ∀ (ks : List (Str × V)) (us : List Str), (∀ p ∈ ks, p.1.length ≤ 1000000 ∧ ∀ k ∈ p.1.cps.toList, k < 16 ^ 8) → ks.length = us.length →
    piled (List.zipWith (fun p u => reprText p.1 ++ ": " ++ u) ks us) ≤ kc ks + piled us
  | [], _, _, _ => by simp [piled]
  | _ :: _, [], _, h => by cases h
  | p :: ks, u :: us, hk, hl => by
    have ih := zip_len ks us (fun q hq => hk q (List.mem_cons_of_mem _ hq)) (by simpa using hl)
    obtain ⟨z1, z2⟩ := hk p List.mem_cons_self
    have r := StrLaws.reprText_len p.1 z2
    have e : (reprText p.1 ++ ": " ++ u).length = (reprText p.1).length + 2 + u.length := by
      rw [strLen_append, strLen_append]; rfl
    have e2 : kc (p :: ks) = 10 * p.1.length + 20 + kc ks := rfl
    rw [List.zipWith_cons_cons, piled_cons, piled_cons, e, e2]
    omega
variable {H H' : Hp} {vs ws : List V} {d d' : Nat} {as bs : List Addr} {ts us : List Str} {c e : Nat}
theorem Shw.cost (h : Shw H vs d as ts c) : piled ts ≤ c := by
  induction h with
  | nil => exact Nat.zero_le _
  | non r ih =>
    rw [piled_cons]
    have : ("None" : Str).length = 4 := by decide +kernel
    omega
  | bl b r ih =>
    rw [piled_cons]
    have : ((if b then "True" else "False" : String) : Str).length ≤ 5 := by cases b <;> decide +kernel
    omega
  | int i hi r ih =>
    rw [piled_cons]
    have q := int_text_length_le10 (k := 60) (by decide) hi
    have : (Str.ofString (toString i)).length = (toString i).length := PySem.ofString_length _
    clear hi
    omega
  | str x hx hc r ih =>
    rw [piled_cons]
    have := StrLaws.reprText_len x hc
    omega
  | lst h q hn r i1 i2 =>
    rw [piled_cons]
    have := list_len ‹_›
    omega
  | tup h q hn r i1 i2 =>
    rw [piled_cons]
    have := fmt_text ‹_›
    omega
  | @dic vs d as ts c a bs us e ks h hk q hn r i1 i2 =>
    rw [piled_cons]
    have z := zip_len ks us hk (by rw [q.len, List.length_map])
    have := dict_len (List.zipWith (fun p u => reprText p.1 ++ ": " ++ u) ks us)
    omega
theorem one_le {t : Str} {ts : List Str} (h : t ∈ ts) : t.length + 2 ≤ piled ts := by
  induction ts with
  | nil => cases h
  | cons u ts ih =>
    rw [piled_cons]
    rcases List.mem_cons.mp h with z | z
    · subst z; omega
    · have := ih z; omega
section
variable {X : Cx} {pins : List (Addr × Obj)} {σ : L2.St} {s : Shared}
theorem kv_vals : ∀ {ks : List (Str × V)} {vs : List (Key × Value)}, KV (ks.map fun p => ((Sum.inr p.1 : Key), p.2)) vs → Vals (ks.map (·.2)) (vs.map (·.2))
  | [], _, h => by cases h; exact .nil
  | p :: ks, _, h => by
    cases h with
    | cons a b => exact .cons a.2 (kv_vals b)
theorem entries {prog : Program} {w : World} {h₀ : Heap} : ∀ (ks : List (Str × V)) (vs : List (Key × Value)) (es : List DictEntry) (us : List Str),
    KV (ks.map fun p => ((Sum.inr p.1 : Key), p.2)) vs → Pairs (mixKind prog w) es vs → (∀ p ∈ ks, p.1.length ≤ 1000000 ∧ ∀ k ∈ p.1.cps.toList, k < 16 ^ 8) →
    (∀ ws : List Value, Vals (ks.map (·.2)) ws → ReprAllK prog w bs h₀ d ws us) →
    ReprEntriesK prog w bs h₀ d es (List.zipWith (fun p u => reprText p.1 ++ ": " ++ u) ks us)
  | [], _, es, us, hv, hp, _, _ => by
    cases hv
    cases hp
    exact .nil
  | p :: ks, vs, es, us, hv, hp, hk, hr => by
    cases hv with
    | @cons _ q _ vs' h1 h2 =>
      obtain ⟨h1a, h1b⟩ := h1
      cases hp with
      | @cons en _ es' _ hi hj hp' =>
        have h0 := hr (q.2 :: vs'.map (·.2)) (.cons h1b (kv_vals h2))
        cases us with
        | nil => cases h0
        | cons u us =>
          have rest : ∀ ws : List Value, Vals (ks.map (·.2)) ws → ReprAllK prog w bs h₀ d ws us := fun ws hw => by
            have z := hr (q.2 :: ws) (.cons h1b hw)
            cases z with
            | cons _ z2 => exact z2
          have r2 := entries ks vs' es' us h2 hp' (fun x hx => hk x (List.mem_cons_of_mem _ hx)) rest
          obtain ⟨z1, z2⟩ := hk p List.mem_cons_self
          have hkey : ∃ t, en.key = .str p.1 t := by
            obtain ⟨q1, q2⟩ := q
            have e1 : Sum.inr p.1 = q1 := h1a
            subst e1
            obtain ⟨t, e⟩ := Value.isStrOf_shape (x := p.1) (v := en.key) hi
            exact ⟨t, e⟩
          obtain ⟨t, ek⟩ := hkey
          rw [List.zipWith_cons_cons]
          refine .cons (e := en) ?_ ?_ r2
          · rw [ek]
            exact .of_is (ReprIs.str p.1 t (by
              have := StrLaws.reprText_len p.1 z2
              rw [sizeLine_eq]
              omega)) _ _ _
          · rw [hj]
            cases h0 with
            | cons z _ => exact z
theorem Shw.runs (I : Inv X pins σ H s) (h : Shw H vs d as ts c) : c ≤ sizeLine → ∀ ws : List Value, Vals vs ws → ReprAllK X.prog X.w as s.heap d ws ts := by
  induction h with
  | nil =>
    intro _ ws r
    cases r
    exact .nil
  | non r ih =>
    intro hc ws rv
    cases rv with
    | cons r1 r2 =>
      cases (show _ = Value.none from r1)
      exact .cons (.of_is ReprIs.none _ _ _) (ih (by omega) _ r2)
  | bl b r ih =>
    intro hc ws rv
    cases rv with
    | cons r1 r2 =>
      cases (show _ = Value.bool b from r1)
      cases b <;> exact .cons (.of_is (ReprIs.bool _) _ _ _) (ih (by omega) _ r2)
  | int i hi r ih =>
    intro hc ws rv
    cases rv with
    | cons r1 r2 =>
      obtain ⟨t, rfl⟩ := r1
      refine .cons (.of_is (ReprIs.int t ?_) _ _ _) (ih (by omega) _ r2)
      by_cases h0 : i.natAbs = 0
      · rw [h0]; decide
      · exact (Nat.log2_lt h0).mpr (Nat.lt_trans hi (by decide +kernel))
  | str x hx hk r ih =>
    intro hc ws rv
    cases rv with
    | cons r1 r2 =>
      obtain ⟨t, rfl⟩ := r1
      refine .cons (.of_is (ReprIs.str x t ?_) _ _ _) (ih (by omega) _ r2)
      have := StrLaws.reprText_len x hk
      rw [sizeLine_eq]
      omega
  | @lst vs d as ts c a xs bs us e h q hn r i1 i2 =>
    intro hc ws rv
    cases rv with
    | cons r1 r2 =>
      cases (show _ = Value.ref a from r1)
      obtain ⟨_, its, n, rx, hg⟩ := (show ObjOk X.prog X.w H s.heap a (.lst xs) from I.hok a _ h)
      have k := i1 (by omega) its rx
      have k2 := (i2 (by omega) _ r2).more_le (as' := (a :: bs) ++ as) (fun b hb => List.mem_append_right _ hb) (Nat.le_refl _)
      refine .cons ?_ k2
      have one : ReprK X.prog X.w (a :: bs) s.heap (d + 1) (.ref a) (listText us) := by
        cases its with
        | nil =>
          cases k
          exact .listEmpty hg rfl rfl
        | cons y l => exact .list hg rfl rfl hn (by simpa using k.length_eq) fun i z hz => k.item i z (by simpa using hz)
      exact one.more fun b hb => List.mem_append_left _ hb
  | @tup vs d as ts c a xs bs us e h q hn r i1 i2 =>
    intro hc ws rv
    cases rv with
    | cons r1 r2 =>
      cases (show _ = Value.ref a from r1)
      obtain ⟨_, its, rx, ob, hg, hcl, n, hd⟩ := (show ObjOk X.prog X.w H s.heap a (.tup xs) from I.hok a _ h)
      have k := i1 (by omega) its rx
      have k2 := (i2 (by omega) _ r2).more_le (as' := (a :: bs) ++ as) (fun b hb => List.mem_append_right _ hb) (Nat.le_refl _)
      exact .cons ((ReprK.tuple hg hcl hd hn k).more fun b hb => List.mem_append_left _ hb) k2
  | @dic vs d as ts c a bs us e ks h hk q hn r i1 i2 =>
    intro hc ws rv
    cases rv with
    | cons r1 r2 =>
      cases (show _ = Value.ref a from r1)
      obtain ⟨_, hsm, vv, rk, ob, es, ep, hg, hex, hd, _, hp, _⟩ := (show ObjOk X.prog X.w H s.heap a (.dK (ks.map fun p => (Sum.inr p.1, p.2))) from I.hok a _ h)
      have k2 := (i2 (by omega) _ r2).more_le (as' := (a :: bs) ++ as) (fun b hb => List.mem_append_right _ hb) (Nat.le_refl _)
      exact .cons ((ReprK.dict hg hex.1 hd hsm hn (entries ks vv es.toList us rk hp hk fun ws hw => i1 (by omega) ws hw)).more fun b hb => List.mem_append_left _ hb) k2
/-- repr(x), x a list -/
theorem call_reprL (hg : X.A.guards = some []) (hu : X.A.units + 64 < cLine) : CallR X (.builtin "repr") (fun vs H Q => ∃ (p : Addr) (d : Nat) (as : List Addr) (t : Str) (c : Nat), vs = [.ref p] ∧ (∃ xs, H p = some (.lst xs)) ∧ Shw H [.ref p] d as [t] c ∧ d ≤ 60 ∧ c ≤ 16000000 ∧ Q (.str t) H) := by
  intro pins s σ H xs us Q I r h
  obtain ⟨p, d, as, t, c, rfl, ⟨xs, hp⟩, hs, hd, hc, q⟩ := h
  obtain ⟨u, rfl, rfl⟩ := vals1 r
  have hz : sizeLine = 16777216 := sizeLine_eq
  have hcost := hs.cost
  rw [piled_cons] at hcost
  obtain ⟨_, its, n, rx, hgt⟩ := (show ObjOk X.prog X.w H s.heap p (.lst xs) from I.hok p _ hp)
  cases hs with
  | @lst _ d0 _ _ _ _ ys bs ts e hp' q1 hn r1 =>
    cases r1
    rw [hp] at hp'
    cases hp'
    have k := q1.runs I (by omega) its rx
    refine call_repr_slot (T := "list") (idr := "list.__repr__") (by omega) ⟨_, hgt, rfl⟩ PySem.F.slot_list_repr.toG ?_
    cases its with
    | nil =>
      cases k
      exact call_list_repr_empty ⟨_, hgt, rfl⟩ hgt rfl ⟨_, _, rfl, .str _, H, I.tok _, ⟨_, rfl⟩, q⟩
    | cons y l =>
      refine call_list_reprK (g := []) hgt rfl rfl hn (by simpa using k.length_eq) (fun i z hz => k.item i z (by simpa using hz)) hg (fun b _ => Clear.nil b) ?_ (fun _ _ e => e) (fun h' u tk hk => ?_) (by omega)
      · show X.A.units + 1 + (d0 + 1) < cLine
        omega
      · exact ⟨_, _, rfl, .str _, H, I.kept (t' := tk) hk, ⟨_, rfl⟩, q⟩
  | tup hp' => rw [hp] at hp'; cases hp'
  | dic ks hp' => rw [hp] at hp'; cases hp'
end
section
variable {X : Cx}
/-- repr(x), x of any kind -/
theorem call_reprV (hg : X.A.guards = some []) (hu : X.A.units + 64 < cLine) : CallR X (.builtin "repr") (fun vs H Q => ∃ (v : V) (d : Nat) (as : List Addr) (t : Str) (c : Nat), vs = [v] ∧ Shw H [v] d as [t] c ∧ d ≤ 60 ∧ c ≤ 16000000 ∧ Q (.str t) H) := by
  intro pins s σ H xs us Q I r h
  obtain ⟨v, d, as, t, c, rfl, hs, hd, hc, q⟩ := h
  obtain ⟨u, rfl, r1⟩ := vals1 r
  have hz : sizeLine = 16777216 := sizeLine_eq
  have hcost := hs.cost
  rw [piled_cons] at hcost
  have fin : ∀ tk, EP X pins σ Q (.str t s.toks) { s with toks := tk } := fun tk => ⟨.str _, H, I.tok _, ⟨_, rfl⟩, q⟩
  cases hs with
  | non r2 =>
    cases (show u = Value.none from r1)
    cases r2
    exact PySem.P.repr_of_none (fin _)
  | bl b r2 =>
    cases (show u = Value.bool b from r1)
    cases r2
    cases b <;> exact PySem.P.repr_of_bool (fin _)
  | int i hi r2 =>
    obtain ⟨tk, rfl⟩ := r1
    cases r2
    refine PySem.P.repr_of_int ?_ (fin _)
    by_cases h0 : i.natAbs = 0
    · rw [h0]; decide
    · exact (Nat.log2_lt h0).mpr (Nat.lt_trans hi (by decide +kernel))
  | str x hx hk r2 =>
    obtain ⟨tk, rfl⟩ := r1
    cases r2
    refine PySem.P.repr_of_str (fin _) ?_
    have := StrLaws.reprText_len x hk
    omega
  | @lst _ d0 _ _ _ a ys bs ts e hp q1 hn r2 =>
    cases r2
    cases (show u = Value.ref a from r1)
    obtain ⟨_, its, n, rx, hgt⟩ := (show ObjOk X.prog X.w H s.heap a (.lst ys) from I.hok a _ hp)
    have k := q1.runs I (by omega) its rx
    refine call_repr_slot (T := "list") (idr := "list.__repr__") (by omega) ⟨_, hgt, rfl⟩ PySem.F.slot_list_repr.toG ?_
    cases its with
    | nil =>
      cases k
      exact call_list_repr_empty ⟨_, hgt, rfl⟩ hgt rfl ⟨_, _, rfl, .str _, H, I.tok _, ⟨_, rfl⟩, q⟩
    | cons y l =>
      refine call_list_reprK (g := []) hgt rfl rfl hn (by simpa using k.length_eq) (fun i z hz => k.item i z (by simpa using hz)) hg (fun b _ => Clear.nil b) ?_ (fun _ _ e => e) (fun h' u tk hk => ?_) (by omega)
      · show X.A.units + 1 + (d0 + 1) < cLine
        omega
      · exact ⟨_, _, rfl, .str _, H, I.kept (t' := tk) hk, ⟨_, rfl⟩, q⟩
  | @tup _ d0 _ _ _ a ys bs ts e hp q1 hn r2 =>
    cases r2
    cases (show u = Value.ref a from r1)
    obtain ⟨_, its, rx, ob, hgt, hcl, n, hda⟩ := (show ObjOk X.prog X.w H s.heap a (.tup ys) from I.hok a _ hp)
    have k := q1.runs I (by omega) its rx
    refine call_repr_slot (T := "tuple") (idr := "tuple.__repr__") (by omega) ⟨_, hgt, hcl⟩ PySem.F.slot_tuple_repr ?_
    refine call_tuple_reprK (g := []) hgt hcl hda hn (by simpa using k) hg (fun b _ => Clear.nil b) ?_ (fun _ _ e => e) (fun h' u tk hk => ?_) (by omega)
    · show X.A.units + 1 + (d0 + 1) < cLine
      omega
    · exact ⟨_, _, rfl, .str _, H, I.kept (t' := tk) hk, ⟨_, rfl⟩, q⟩
  | @dic _ d0 _ _ _ a bs ts e ks hp hk q1 hn r2 =>
    cases r2
    cases (show u = Value.ref a from r1)
    obtain ⟨_, hsm, vv, rk, ob, es, ep, hgt, hex, hda, _, hpr, _⟩ := (show ObjOk X.prog X.w H s.heap a (.dK (ks.map fun p => (Sum.inr p.1, p.2))) from I.hok a _ hp)
    refine call_repr_slot (T := "dict") (idr := "dict.__repr__") (by omega) ⟨_, hgt, hex.1⟩ PySem.F.slot_dict_repr ?_
    refine call_dict_reprK (g := []) hgt hex.1 hda hsm hn (entries ks vv es.toList _ rk hpr hk fun ws hw => q1.runs I (by omega) ws hw) hg (fun b _ => Clear.nil b) ?_ (fun _ _ e => e) (fun h' u tk hk => ?_) (by omega)
    · show X.A.units + 1 + (d0 + 1) < cLine
      omega
    · exact ⟨_, _, rfl, .str _, H, I.kept (t' := tk) hk, ⟨_, rfl⟩, q⟩
end
end RX
/-! Promises of defs that are called where nothing is being printed (guards empty). -/
namespace RX
open PySem PySem.Spec PyProof.Rows L2
/-- a def's promise, wherever it is called with nothing being printed -/
structure Ok0 (P : Program) (w : World) (K : PySem.W.Frag) (mg : PySem.Str → Option Value) (base : Heap) (k : Nat)
    (f : Addr) (fd : FuncData) (ps : List PySem.Str) (sp : Sp) : Prop where
  cnt : ∀ vs H Q E, sp vs H Q E → vs.length = ps.length
  go : ∀ (A : Around) (outer : List Env) (s : Shared) (H : Hp) (args : Args) (us : List Value) (vs : List V) (Q : VK) (E : XK),
    A.guards = some [] → Room k A → Env0 P w K mg base A outer s H → BindsTo s fd args (ps.zip us) → Vals vs us → sp vs H Q E →
    codeAny (model P w) A (.call (.ref f) args) (CR CX0 outer P w H s Q E) s
section
variable {P : Program} {w : World} {K : PySem.W.Frag} {mg : PySem.Str → Option Value} {base : Heap} {k : Nat} {f : Addr} {fd : FuncData}
theorem Ok0.mk_of {x qual : PySem.Str} {st : Stmt} {N ps : List PySem.Str} {sp : Sp} (F : Fun K x qual st f fd) (S : FnScope N ps (defScope st))
    (cnt : ∀ vs H Q E, sp vs H Q E → vs.length = ps.length)
    (body : ∀ (cdv : Value) (A : Around) (outer : List Env) (s : Shared) (H : Hp) (vs : List V) (Q : VK) (E : XK), A.guards = some [] →
      Room k (A.deeper (envOfC qual (defScope st) s.heap.objs.size f cdv)) → sp vs H Q E →
      ∃ t, PSs (cxOf CX0 P w K mg base N qual (defScope st) f cdv A outer s H E).nox (defBody st) t ∧ t { nx := fun _ H' => Q .non H', rt := Q } (start N vs) H) :
    Ok0 P w K mg base (k + 1) f fd ps sp := by
  obtain ⟨oc, od, kV, doc, pm, an, cdv, ct, osl, rfl, lk, hcd⟩ := F.ex
  refine ⟨cnt, ?_⟩
  intro A outer s H args us vs Q E hgd hr e0 hb r hsp
  have kept : ∀ b o, base.get? b = some o → s.heap.get? b = some o := fun b o e => (e0.bs b o e).1
  have KX : K.In s.heap := e0.mod.kin.keeps kept
  have par : ∀ y ∈ ps.zip us, (defScope st).names.lookup y.1 = some .local ∨
      ((defScope st).names.lookup y.1 = some .cell ∧ ((cellsFrom (s.heap.objs.size + 1) (defScope st).names []).lookup y.1).isSome = true) := by
    rintro ⟨n, v⟩ hy
    rcases S.par n (List.of_mem_zip hy).1 with q | q
    · exact .inl q
    · exact .inr ⟨q, PySem.W.cellsFrom_some _ _ _ (.inl q)⟩
  have entry := hb
  refine codeAny_call_function hr.depth (KX _ _ lk) rfl S.co S.gen rfl (PySem.W.codeRec_of KX hcd) (entry _ _ _ _ ?_)
  refine wpAny_newFunctionEnv_cells S.kind par ?_
  intro env he s1 x
  subst he
  refine ⟨(e0.mod.nolimit.keeps kept).keeps x.toInCall.keep, codeAny_func ?_⟩
  obtain ⟨t, ht, hq⟩ := body cdv A outer s H vs Q E hgd (hr.deeper _) hsp
  have I := inv_start (CX := CX0) (E := E) S hr.hd e0 (cnt _ _ _ _ hsp) r x
  have fin : ∀ {σ' : L2.St} {s' : Shared} {H' : Hp} {v : V} {u : Value},
      Inv (cxOf CX0 P w K mg base N qual (defScope st) f cdv A outer s H E) [] σ' H' s' → RelV v u → Q v H' → CE outer P w H s Q u s' := by
    intro σ' s' H' v u J rv q
    exact ⟨v, H', J.os, J.bare, J.base, J.hok, rv, q⟩
  refine wpAny_mono (ht.nox.run [] s1 (start N vs) H _ I hq) ?_ (fun e s' hs => hs)
  intro fl s' hs
  cases fl with
  | ret u => obtain ⟨v, σ', H', J, rv, q⟩ := hs; exact fin J rv q
  | next => obtain ⟨σ', H', J, q⟩ := hs; exact fin (v := V.non) (u := Value.none) J rfl q
  | brk => obtain ⟨_, _, _, q⟩ := hs; exact q.elim
  | cont => obtain ⟨_, _, _, q⟩ := hs; exact q.elim
end
section
variable {X : Cx} {k : Nat} {f : Addr} {fd : FuncData} {ps : List PySem.Str} {sp : Sp} {x : PySem.Str} {p pos : Pos} {e : Expr} {es : List Expr} {t : TA}
/-- f(..) of such a def -/
theorem pe_call00 (F : Ok0 X.prog X.w X.K X.mg X.base k f fd ps sp) (hgd : X.A.guards = some []) (hr : Room k X.A) (hg : Gl X x) (hm : X.mg x = some (.ref f)) (hk : PySem.W.keepIn X.K (.ref f) = true)
    (hb : Binds X.K fd ps []) (ha : PA X (e :: es) t) (hdb : (x == ("__debug__" : PySem.Str)) = false := by decide)
    (he : starEach (e :: es) X.env = (false, eval e X.env) :: starEach es X.env := by rfl) (hpl : (backTo pos (starEach es X.env)).any (·.1) = false := by rfl) :
    PE X (.Call (.Name x p) (e :: es) [] pos) (fun σ H Q => t σ H fun vs H1 => sp vs H1 Q E0) := by
  constructor
  intro pins s σ H Q I h
  refine wpAny_Call_Name_kw (ld_glob I hg hm ?_ hdb)
  refine PySem.W.callWith_K (h₀ := X.base) I.ok.mod.kin hk (thn (ha.run pos pins s σ H _ I h) ?_) he hpl
  rintro us s1 ⟨vs, H1, I1, r, q⟩
  refine ⟨I1.kIn, ?_⟩
  have hl : us.length = ps.length := by rw [← r.length]; exact F.cnt _ _ _ _ q
  have hb1 := hb s1 us I1.kIn (by simpa using hl)
  rw [List.append_nil] at hb1
  refine wpAny_call (codeAny_mono (F.go X.A X.stack s1 H1 ⟨us, []⟩ us vs Q E0 hgd hr I1.env0 hb1 r q) ?_)
  intro r' s' hq
  cases r' with
  | error e => exact hq.elim
  | ok fl =>
    cases fl with
    | ret u => exact I1.after hq
    | next => exact hq.elim
    | brk => exact hq.elim
    | cont => exact hq.elim
end
end RX
/-! The law's own call, from a promise that wants empty guards. -/
namespace RX
open PySem PySem.Spec PyProof.Rows L2
section
variable {P : Program} {w : World} {K : PySem.W.Frag} {mg mb : PySem.Str → Option Value} {k : Nat} {fa a : Addr} {fd : FuncData} {x : PySem.Str} {sp : Sp} {s₁ : Shared} {vs : List Value} {ns : List Int}
/-- from an abstract heap that tracks at most the script -/
theorem law_core {H : Hp} (KX : K.In s₁.heap) (hns : s₁.heap.Ns mainGlobals mg) (hb : s₁.heap.Ns builtinsNs mb) (hbb : ∀ x : PySem.Str, x ≠ "__name__" → mb x = bootBuiltins x) (hlim : s₁.heap.NoLimit) (hg : s₁.gens = #[])
    (ha : s₁.heap.get? a = some { cls := .type "list", data := .seq vs.toArray }) (hr : Room k callerA)
    (F : ∀ base : Heap, K.In base → base.Ns mainGlobals mg → Ok0 P w K mg base k fa fd [x] sp) (hbind : ∀ (s : Shared) (u : Value), BindsTo s fd ⟨[u], []⟩ [(x, u)])
    (hO : Only H) (hsp : sp [.ref a] H (fun v _ => v = .bl true) fun _ _ _ => False) (hok : HOk P w H s₁.heap) (hA : ∀ b, H b ≠ none → b = a) (hK : H a ≠ none → K.lookup a = none) :
    codeAny (model P w) callerA (.call (.ref fa) ⟨[.ref a], []⟩) (fun r s' => r = .ok (.ret (.bool true)) ∧ OldK s₁.heap s'.heap ∧ s'.os = s₁.os ∧ AllBare s'.gens) s₁ := by
  have dictFree : ∀ {b : Addr} {o : Obj} {es : Array DictEntry} {ep : Nat}, s₁.heap.get? b = some o → o.data = .dict es ep → H b = none := by
    intro b o es ep e d
    rcases Option.eq_none_or_eq_some (H b) with q | ⟨u, q⟩
    · exact q
    · have e' := hA b (by rw [q]; simp)
      rw [e', ha] at e
      cases e
      exact absurd (show Data.seq vs.toArray _ = Data.dict es ep from d) (by simp)
  have ns' : ∀ {b : Addr} {m : PySem.Str → Option Value}, s₁.heap.Ns b m → (hidT s₁.heap H).Ns b m := by
    rintro b m ⟨o, es, ep, e, d, r⟩
    exact ⟨o, es, ep, hidT_get e (dictFree e d), d, r⟩
  have kin : K.In (hidT s₁.heap H) := by
    intro b o e
    refine hidT_get (KX b o e) ?_
    rcases Option.eq_none_or_eq_some (H b) with q | ⟨u, q⟩
    · exact q
    · have e' := hA b (by rw [q]; simp)
      rw [e'] at e q
      rw [hK (by rw [q]; simp)] at e
      cases e
  obtain ⟨mc, l1, l2⟩ := hlim
  have M : Mod K mg (hidT s₁.heap H) := ⟨kin, ns' hns, ⟨mb, ns' hb, hbb⟩, ⟨mc, ns' l1, l2⟩⟩
  have e0 : Env0 P w K mg (hidT s₁.heap H) callerA [] s₁ H :=
    { frames := rfl, mod := M, bs := fun b o e => of_hidT e, bsz := Nat.le_of_eq (hidT_size _ _), funs := trivial, frf := fun b hb => (by cases hb), hok := hok, bare := .of_eq hg }
  refine codeAny_mono ((F _ kin (ns' hns)).go callerA [] s₁ H ⟨[.ref a], []⟩ [.ref a] [.ref a] _ _ rfl hr e0 (hbind s₁ (.ref a)) (.cons rfl .nil) hsp) ?_
  intro r s' h
  cases r with
  | error e => exact h.elim
  | ok fl =>
    cases fl with
    | next => exact h.elim
    | brk => exact h.elim
    | cont => exact h.elim
    | ret u =>
      obtain ⟨v, H', os, bare, un, hok', r', q⟩ := h
      obtain rfl : v = .bl true := q
      obtain rfl : u = Value.bool true := r'
      refine ⟨rfl, OldK.of_keep ?_, os, bare⟩
      intro b o e
      rcases Option.eq_none_or_eq_some (H b) with q | ⟨u, q⟩
      · exact un.keep b o e q (by intro z; cases z) (by simp)
      · rcases hO b with z | ⟨ob, xs, z⟩
        · rw [q] at z; cases z
        · have y1 := (hok b _ z).1
          have y2 := (hok' b _ (un.frzs b ob _ z)).1
          rw [e] at y1
          cases y1
          exact y2
theorem law_end (KX : K.In s₁.heap) (hns : s₁.heap.Ns mainGlobals mg) (hb : s₁.heap.Ns builtinsNs mb) (hbb : ∀ x : PySem.Str, x ≠ "__name__" → mb x = bootBuiltins x) (hlim : s₁.heap.NoLimit) (hg : s₁.gens = #[])
    (ha : s₁.heap.get? a = some { cls := .type "list", data := .seq vs.toArray }) (hi : IntsAre vs ns) (hl : ns.length ≤ sizeLine) (hr : Room k callerA)
    (F : ∀ base : Heap, K.In base → base.Ns mainGlobals mg → Ok0 P w K mg base k fa fd [x] sp) (hbind : ∀ (s : Shared) (u : Value), BindsTo s fd ⟨[u], []⟩ [(x, u)])
    (hsp : ∀ H : Hp, Only H → SqL K H a (ns.map V.int) → sp [.ref a] H (fun v _ => v = .bl true) fun _ _ _ => False) :
    codeAny (model P w) callerA (.call (.ref fa) ⟨[.ref a], []⟩) (fun r s' => r = .ok (.ret (.bool true)) ∧ OldK s₁.heap s'.heap ∧ s'.os = s₁.os ∧ AllBare s'.gens) s₁ := by
  have rv := vals_ints hi
  rcases Option.eq_none_or_eq_some (K.lookup a) with hk | ⟨o, hk⟩
  · let ob : Obj := { cls := .type "list", data := .seq vs.toArray }
    let H : Hp := fun b => if b = a then some (.frz ob (.lst (ns.map V.int))) else none
    have at_ : ∀ b, b = a → H b = some (.frz ob (.lst (ns.map V.int))) := fun b e => if_pos e
    have off : ∀ b, b ≠ a → H b = none := fun b e => if_neg e
    refine law_core (H := H) KX hns hb hbb hlim hg ha hr F hbind ?_ (hsp H ?_ (.inl (.inr ⟨ob, at_ a rfl⟩))) ?_ ?_ (fun _ => hk)
    · intro b
      by_cases e : b = a
      · exact .inr ⟨_, _, at_ b e⟩
      · exact .inl (off b e)
    · intro b
      by_cases e : b = a
      · exact .inr ⟨_, _, at_ b e⟩
      · exact .inl (off b e)
    · intro b u z
      by_cases e : b = a
      · rw [at_ b e] at z
        cases z
        subst e
        exact ⟨ha, by rw [List.length_map]; exact hl, vs, _, rv, ha⟩
      · rw [off b e] at z
        cases z
    · intro b z
      by_cases e : b = a
      · exact e
      · exact absurd (off b e) z
  · have e := KX a o hk
    rw [ha] at e
    cases e
    have lv : vs.length ≤ sizeLine := by rw [hi.length]; exact hl
    refine law_core (H := fun _ => none) KX hns hb hbb hlim hg ha hr F hbind (fun _ => .inl rfl) (hsp _ (fun _ => .inl rfl) (.inr ⟨_, vs.toArray, _, hk, rfl, rfl, rfl, by simpa using lv, by simpa using rv⟩)) ?_ (fun b z => absurd rfl z) (fun z => absurd rfl z)
    intro b u z
    cases z
end
/-- the end of a law whose promise wants empty guards -/
theorem walk_of0 {l : PySem.W.OpenLaw} {n k : Nat} {q : Program} {loose : List PySem.Str} {XP : (PySem.Str → Option Value) → Heap → Prop} {YP : World → Heap → Prop} {d : DefRec} {K : Params → PySem.W.Frag} {sp : PySem.W.Frag → Sp} {x : PySem.Str}
    (hn : l.most = some n) (hn2 : n ≤ sizeLine) (hdf : d.params.defaults = []) (hr : Room k callerA) (hY : ∀ (w : World) (h : Heap), YP w h → (K w.params).In h)
    (F : ∀ (w : World) (mg : PySem.Str → Option Value) (fa : Addr) (h : Heap), (K w.params).In h → h.Ns mainGlobals mg → mg d.name = some (.ref fa) →
      ∃ fd : FuncData, (∀ (s : Shared) (u : Value), BindsTo s fd ⟨[u], []⟩ [(x, u)]) ∧ ∀ base : Heap, (K w.params).In base → base.Ns mainGlobals mg → Ok0 l.prog w (K w.params) mg base k fa fd [x] (sp (K w.params)))
    (hsp : ∀ (K : PySem.W.Frag) (H : Hp) (a : Addr) (ns : List Int), ns.length ≤ n → Only H → SqL K H a (ns.map V.int) → sp K [.ref a] H (fun v _ => v = .bl true) fun _ _ _ => False) :
    PySem.W.WalkO q loose XP YP l.row.toRowW d [] (fun f vs => PySem.call f vs) := by
  refine Att.attach_call hn hdf ?_
  intro w s₀ s₁ mg mb fa o pm cd doc a vs ns G Y ho hd hcd hmg hobj hints hlen hg
  obtain ⟨fd, hb, hF⟩ := F w mg fa _ (hY w _ Y) G.T.g hmg
  exact law_end (hY w _ Y) G.T.g G.T.b G.T.builtins G.T.nolimit hg hobj hints (Nat.le_trans hlen hn2) hr hF hb (fun H hO hS => hsp _ H a ns hlen hO hS)
end RX
/-! == of nested lists, tuples, dicts; two values alike. -/
namespace RX
open PySem PySem.Spec PyProof.Rows L2
def EqT (K : PySem.W.Frag) (H : Hp) (F : V → V → Prop) (x y : V) : Prop := ∃ (a b : Addr) (xs ys : List V), x = .ref a ∧ y = .ref b ∧ SqT K H a xs ∧ SqT K H b ys ∧ Paired F xs ys
def EqW (K : PySem.W.Frag) (H : Hp) : Nat → V → V → Prop
  | 0 => fun _ _ => False
  | n + 1 => fun x y => (x = y ∧ flatB x = true) ∨ (∃ a, x = .ref a ∧ y = .ref a) ∨ EqR K H (EqW K H n) x y ∨ EqT K H (EqW K H n) x y
section
variable {X : Cx} {pins : List (Addr × Obj)} {σ : L2.St} {H : Hp} {s : Shared}
theorem eqT_run (I : Inv X pins σ H s) {A : Around} {F : V → V → Prop} (hu : A.units < cLine) (ih : ∀ x y v u, F x y → RelV x v → RelV y u → SeqAt.EqP X.prog X.w A.in1 s v u true) {x y : V} {v u : Value} (h : EqT X.K H F x y) (rx : RelV x v) (ry : RelV y u)
    (E Q : Value → Shared → Prop) (q : Q (.bool true) s) : wpAny (model X.prog X.w) A (richCompare .Eq v u) Q E s := by
  obtain ⟨a, b, xs, ys, rfl, rfl, ha, hb, hp⟩ := h
  cases (show v = Value.ref a from rx); cases (show u = Value.ref b from ry)
  obtain ⟨us, r1, p1, _⟩ := I.tuple ha
  obtain ⟨ws, r2, p2, _⟩ := I.tuple hb
  have hsz : us.length = ws.length := by rw [← r1.length, ← r2.length]; exact Paired.length hp
  refine SeqAt.rcIn_tuples (e := fun _ => true) p1 p2 hu (fun j h1 h2 => ?_) ?_
  · have k := items_run ih hp r1 r2 j (by simpa using h1) (by simpa using h2)
    have k2 : SeqAt.EqIn X.prog X.w A.in1 s us[j] ws[j] true := k
    simpa using k2
  · have e : ((List.range (min us.toArray.size ws.toArray.size)).all (fun _ => true) && us.toArray.size == ws.toArray.size) = true := by
      rw [List.size_toArray, List.size_toArray, hsz]
      simp
    rw [e]
    exact q
theorem eqRT_run (I : Inv X pins σ H s) {A : Around} {F : V → V → Prop} (hu : A.units < cLine) (ih : ∀ x y v u, F x y → RelV x v → RelV y u → SeqAt.EqP X.prog X.w A.in1 s v u true) {x y : V} {v u : Value} (h : EqR X.K H F x y ∨ EqT X.K H F x y) (rx : RelV x v) (ry : RelV y u)
    (E Q : Value → Shared → Prop) (q : Q (.bool true) s) : wpAny (model X.prog X.w) A (richCompare .Eq v u) Q E s :=
  h.elim (fun h => eqR_run I hu ih h rx ry E Q q) fun h => eqT_run I hu ih h rx ry E Q q
theorem eqW_run (I : Inv X pins σ H s) : ∀ (n : Nat) (A : Around), A.units + n < cLine → ∀ (x y : V) (v u : Value), EqW X.K H n x y → RelV x v → RelV y u → SeqAt.EqP X.prog X.w A s v u true
  | 0, _, _, _, _, _, _, h, _, _ => (show False from h).elim
  | n + 1, A, hu, x, y, v, u, h, rx, ry => by
    rcases h with ⟨rfl, f⟩ | ⟨a, rfl, rfl⟩ | h
    · exact (eqAt_same rx ry f).eqP
    · cases (show v = Value.ref a from rx); cases (show u = Value.ref a from ry)
      exact (SeqAt.EqAt.same _).eqP
    · have step := eqRT_run I (A := A) (by omega) (eqW_run I n A.in1 (by show A.units + 1 + n < cLine; omega)) h rx ry
      obtain ⟨a, b, rfl, rfl⟩ : ∃ a b, x = .ref a ∧ y = .ref b := by
        rcases h with (⟨a, b, _, _, e1, e2, _⟩ | ⟨a, b, _, _, e1, e2, _⟩) | ⟨a, b, _, _, e1, e2, _⟩ <;> exact ⟨a, b, e1, e2⟩
      cases (show v = Value.ref a from rx); cases (show u = Value.ref b from ry)
      by_cases e : a = b
      · subst e
        exact (SeqAt.EqAt.same _).eqP
      · exact SeqAt.eqP_refs e step
theorem op_eqW (hu : X.A.units + 64 < cLine) : OpR X (compareOp .Eq) (fun x y H Q => ∃ n, n ≤ 60 ∧ (EqR X.K H (EqW X.K H n) x y ∨ EqT X.K H (EqW X.K H n) x y) ∧ Q (.bl true) H) := by
  intro pins s σ H x y v u Q I rx ry h
  obtain ⟨n, hn, h, q⟩ := h
  exact eqRT_run I (A := X.A) (by omega) (eqW_run I n X.A.in1 (by show X.A.units + 1 + n < cLine; omega)) h rx ry _ _ ⟨.bl true, H, I, rfl, q⟩
end
theorem EqW.flat {K : PySem.W.Frag} {H : Hp} {n : Nat} {x : V} (h : flatB x = true) : EqW K H (n + 1) x x := .inl ⟨rfl, h⟩
theorem EqW.same {K : PySem.W.Frag} {H : Hp} {n : Nat} {a : Addr} : EqW K H (n + 1) (.ref a) (.ref a) := .inr (.inl ⟨a, rfl, rfl⟩)
end RX
/-! Data, and what stands for it on an abstract heap: it prints and compares as the data do. -/
namespace RX
open PySem PySem.Spec PyProof.Rows L2
/-- plain data: dicts with texts as keys -/
inductive Dt where
  | non
  | bl (b : Bool)
  | int (i : Int)
  | str (x : PySem.Str)
  | lst (ds : List Dt)
  | tup (ds : List Dt)
  | dic (ks : List PySem.Str) (ds : List Dt)
namespace Dt
mutual
def sh : Dt → PySem.Str
  | .non => "None"
  | .bl b => (if b then "True" else "False" : String)
  | .int i => toString i
  | .str x => reprText x
  | .lst ds => listText (shAll ds)
  | .tup ds => tupleText (shAll ds)
  | .dic ks ds => dictText (List.zipWith (fun k u => reprText k ++ ": " ++ u) ks (shAll ds))
def shAll : List Dt → List PySem.Str
  | [] => []
  | d :: ds => sh d :: shAll ds
end
mutual
def sz : Dt → Nat
  | .non => 1
  | .bl _ => 1
  | .int _ => 1
  | .str _ => 1
  | .lst ds => szAll ds + 1
  | .tup ds => szAll ds + 1
  | .dic _ ds => szAll ds + 1
def szAll : List Dt → Nat
  | [] => 0
  | d :: ds => sz d + szAll ds
end
mutual
def dep : Dt → Nat
  | .non => 0
  | .bl _ => 0
  | .int _ => 0
  | .str _ => 0
  | .lst ds => depAll ds + 1
  | .tup ds => depAll ds + 1
  | .dic _ ds => depAll ds + 1
def depAll : List Dt → Nat
  | [] => 0
  | d :: ds => max (dep d) (depAll ds)
end
mutual
def cost : Dt → Nat
  | .non => 10
  | .bl _ => 10
  | .int _ => 70
  | .str x => 10 * x.length + 10
  | .lst ds => 10 + costAll ds
  | .tup ds => 10 + costAll ds
  | .dic ks ds => 10 + (ks.map fun k => 10 * k.length + 20).sum + costAll ds
def costAll : List Dt → Nat
  | [] => 0
  | d :: ds => cost d + costAll ds
end
end Dt
/-- a text that prints -/
def Sg (x : PySem.Str) : Prop := x.length ≤ 1000000 ∧ ∀ k ∈ x.cps.toList, k < 16 ^ 8
mutual
inductive Fine : Dt → Prop
  | non : Fine .non
  | bl (b : Bool) : Fine (.bl b)
  | int (i : Int) (h : i.natAbs < 10 ^ 60) : Fine (.int i)
  | str (x : PySem.Str) (h : Sg x) : Fine (.str x)
  | lst {ds : List Dt} (h : FineAll ds) : Fine (.lst ds)
  | tup {ds : List Dt} (h : FineAll ds) : Fine (.tup ds)
  | dic {ks : List PySem.Str} {ds : List Dt} (hk : ∀ k ∈ ks, Sg k) (h : FineAll ds) : Fine (.dic ks ds)
inductive FineAll : List Dt → Prop
  | nil : FineAll []
  | cons {d : Dt} {ds : List Dt} (h : Fine d) (t : FineAll ds) : FineAll (d :: ds)
end
def kk (ks : List (PySem.Str × V)) : List (L2.Key × V) := ks.map fun p => (Sum.inr p.1, p.2)
mutual
/-- v stands for the data; no list and no dict of it is at b -/
inductive Rp (b : Addr) (H : Hp) : V → Dt → Prop
  | non : Rp b H .non .non
  | bl (c : Bool) : Rp b H (.bl c) (.bl c)
  | int (i : Int) : Rp b H (.int i) (.int i)
  | str (x : PySem.Str) : Rp b H (.str x) (.str x)
  | lst {a : Addr} {xs : List V} {ds : List Dt} (n : a ≠ b) (h : H a = some (.lst xs)) (k : RpAll b H xs ds) : Rp b H (.ref a) (.lst ds)
  | tup {a : Addr} {xs : List V} {ds : List Dt} (h : H a = some (.tup xs)) (k : RpAll b H xs ds) : Rp b H (.ref a) (.tup ds)
  | dic {a : Addr} {ks : List (PySem.Str × V)} {ds : List Dt} (n : a ≠ b) (h : H a = some (.dK (kk ks))) (nd : (ks.map (·.1)).Nodup) (k : RpAll b H (ks.map (·.2)) ds) : Rp b H (.ref a) (.dic (ks.map (·.1)) ds)
inductive RpAll (b : Addr) (H : Hp) : List V → List Dt → Prop
  | nil : RpAll b H [] []
  | cons {v : V} {vs : List V} {d : Dt} {ds : List Dt} (h : Rp b H v d) (t : RpAll b H vs ds) : RpAll b H (v :: vs) (d :: ds)
end
theorem kk_inj {ks ls : List (PySem.Str × V)} (h : kk ks = kk ls) : ks = ls := by
  induction ks generalizing ls with
  | nil => cases ls with
    | nil => rfl
    | cons q ls => cases h
  | cons p ks ih => cases ls with
    | nil => cases h
    | cons q ls =>
      have h' : (Sum.inr p.1, p.2) :: kk ks = (Sum.inr q.1, q.2) :: kk ls := h
      injection h' with h1 h2
      injection h1 with h3 h4
      injection h3 with h3
      rw [ih h2, Prod.ext h3 h4]
section
variable {b : Addr} {H H' : Hp}
theorem RpAll.len {vs : List V} : ∀ {ds : List Dt}, RpAll b H vs ds → vs.length = ds.length := by
  intro ds h
  induction vs generalizing ds with
  | nil => cases h; rfl
  | cons v vs ih =>
    cases h with
    | cons h t => rw [List.length_cons, List.length_cons, ih t]
mutual
theorem Rp.fn : ∀ (d d' : Dt) (v : V), Rp b H v d → Rp b H v d' → d = d'
  | .non, d', v, h, h' => by cases h; cases h'; rfl
  | .bl c, d', v, h, h' => by cases h; cases h'; rfl
  | .int i, d', v, h, h' => by cases h; cases h'; rfl
  | .str x, d', v, h, h' => by cases h; cases h'; rfl
  | .lst ds, d', v, h, h' => by
    cases h with
    | lst n h k =>
      cases h' with
      | lst n2 h2 k2 =>
        rw [h] at h2
        cases h2
        rw [RpAll.fn ds _ _ k k2]
      | tup h2 k2 => rw [h] at h2; cases h2
      | dic n2 h2 _ k2 => rw [h] at h2; cases h2
  | .tup ds, d', v, h, h' => by
    cases h with
    | tup h k =>
      cases h' with
      | lst n2 h2 k2 => rw [h] at h2; cases h2
      | tup h2 k2 =>
        rw [h] at h2
        cases h2
        rw [RpAll.fn ds _ _ k k2]
      | dic n2 h2 _ k2 => rw [h] at h2; cases h2
  | .dic ks ds, d', v, h, h' => by
    cases h with
    | dic n h nd k =>
      cases h' with
      | lst n2 h2 k2 => rw [h] at h2; cases h2
      | tup h2 k2 => rw [h] at h2; cases h2
      | dic n2 h2 _ k2 =>
        rw [h] at h2
        have e := kk_inj (HO.dK.inj (Option.some.inj h2))
        subst e
        rw [RpAll.fn ds _ _ k k2]
theorem RpAll.fn : ∀ (ds ds' : List Dt) (vs : List V), RpAll b H vs ds → RpAll b H vs ds' → ds = ds'
  | [], ds', vs, h, h' => by cases h; cases h'; rfl
  | d :: ds, ds', vs, h, h' => by
    cases h with
    | cons h t =>
      cases h' with
      | cons h2 t2 => rw [Rp.fn d _ _ h h2, RpAll.fn ds _ _ t t2]
end
/-- what is kept where lists, tuples and dicts stand -/
def Kp (b : Addr) (H H' : Hp) : Prop := ∀ a o, H a = some o → (∀ xs, o = .lst xs → a ≠ b) → (∀ xs, o = .dK xs → a ≠ b) → H' a = some o
mutual
theorem Rp.kp (k : Kp b H H') : ∀ (d : Dt) (v : V), Rp b H v d → Rp b H' v d
  | .non, v, h => by cases h; exact .non
  | .bl c, v, h => by cases h; exact .bl c
  | .int i, v, h => by cases h; exact .int i
  | .str x, v, h => by cases h; exact .str x
  | .lst ds, v, h => by
    cases h with
    | lst n h t => exact .lst n (k _ _ h (fun _ _ => n) (fun _ _ => n)) (RpAll.kp k ds _ t)
  | .tup ds, v, h => by
    cases h with
    | tup h t => exact .tup (k _ _ h (fun _ e => nomatch e) (fun _ e => nomatch e)) (RpAll.kp k ds _ t)
  | .dic ks ds, v, h => by
    cases h with
    | dic n h nd t => exact .dic n (k _ _ h (fun _ _ => n) (fun _ _ => n)) nd (RpAll.kp k ds _ t)
theorem RpAll.kp (k : Kp b H H') : ∀ (ds : List Dt) (vs : List V), RpAll b H vs ds → RpAll b H' vs ds
  | [], vs, h => by cases h; exact .nil
  | d :: ds, vs, h => by
    cases h with
    | cons h t => exact .cons (Rp.kp k d _ h) (RpAll.kp k ds _ t)
end
theorem Rp.same {v : V} {d : Dt} (h : Rp b H v d) (s : Same H H') : Rp b H' v d := Rp.kp (fun a o e _ _ => s a o e) d v h
theorem RpAll.same {vs : List V} {ds : List Dt} (h : RpAll b H vs ds) (s : Same H H') : RpAll b H' vs ds := RpAll.kp (fun a o e _ _ => s a o e) ds vs h
theorem Rp.sz_pos : ∀ d : Dt, 1 ≤ d.sz
  | .non => Nat.le_refl _
  | .bl _ => Nat.le_refl _
  | .int _ => Nat.le_refl _
  | .str _ => Nat.le_refl _
  | .lst ds => by show 1 ≤ Dt.szAll ds + 1; omega
  | .tup ds => by show 1 ≤ Dt.szAll ds + 1; omega
  | .dic _ ds => by show 1 ≤ Dt.szAll ds + 1; omega
theorem kc_keys (ks : List (PySem.Str × V)) : kc ks = ((ks.map (·.1)).map fun k => 10 * k.length + 20).sum := by
  unfold kc
  rw [List.map_map]
  rfl
theorem zip_keys : ∀ (ks : List (PySem.Str × V)) (us : List PySem.Str), List.zipWith (fun p u => reprText p.1 ++ ": " ++ u) ks us = List.zipWith (fun k u => reprText k ++ ": " ++ u) (ks.map (·.1)) us
  | [], us => by simp
  | p :: ks, [] => by simp
  | p :: ks, u :: us => by rw [List.zipWith_cons_cons, List.map_cons, List.zipWith_cons_cons, zip_keys ks us]
mutual
theorem Rp.shw : ∀ (d : Dt) (v : V), Rp b H v d → Fine d → ∃ as, Shw H [v] d.dep as [d.sh] d.cost ∧ ∀ a ∈ as, ∃ d', Rp b H (.ref a) d' ∧ d'.sz ≤ d.sz
  | .non, v, h, _ => by cases h; exact ⟨_, .non .nil, fun a ha => by cases ha⟩
  | .bl c, v, h, _ => by cases h; exact ⟨_, .bl c .nil, fun a ha => by cases ha⟩
  | .int i, v, h, f => by
    cases h
    cases f with
    | int _ hi => exact ⟨_, .int i hi .nil, fun a ha => by cases ha⟩
  | .str x, v, h, f => by
    cases h
    cases f with
    | str _ hx => exact ⟨_, .str x hx.1 hx.2 .nil, fun a ha => by cases ha⟩
  | .lst ds, v, h, f => by
    cases f with
    | lst f =>
      cases h with
      | @lst a xs _ n h k =>
        obtain ⟨as, s, m⟩ := RpAll.shw ds _ k f
        have z : a ∉ as := fun ha => by
          obtain ⟨d', r, l⟩ := m a ha
          have e := Rp.fn _ _ _ r (.lst n h k)
          rw [e] at l
          have : Dt.szAll ds + 1 ≤ Dt.szAll ds := l
          omega
        refine ⟨_, .lst h s z .nil, fun x hx => ?_⟩
        rw [List.append_nil] at hx
        rcases List.mem_cons.mp hx with e | hx
        · rw [e]; exact ⟨_, .lst n h k, Nat.le_refl _⟩
        · obtain ⟨d', r, l⟩ := m x hx
          exact ⟨d', r, Nat.le_succ_of_le l⟩
  | .tup ds, v, h, f => by
    cases f with
    | tup f =>
      cases h with
      | @tup a xs _ h k =>
        obtain ⟨as, s, m⟩ := RpAll.shw ds _ k f
        have z : a ∉ as := fun ha => by
          obtain ⟨d', r, l⟩ := m a ha
          have e := Rp.fn _ _ _ r (.tup h k)
          rw [e] at l
          have : Dt.szAll ds + 1 ≤ Dt.szAll ds := l
          omega
        refine ⟨_, .tup h s z .nil, fun x hx => ?_⟩
        rw [List.append_nil] at hx
        rcases List.mem_cons.mp hx with e | hx
        · rw [e]; exact ⟨_, .tup h k, Nat.le_refl _⟩
        · obtain ⟨d', r, l⟩ := m x hx
          exact ⟨d', r, Nat.le_succ_of_le l⟩
  | .dic ks ds, v, h, f => by
    cases f with
    | dic fk f =>
      cases h with
      | @dic a kv _ n h nd k =>
        obtain ⟨as, s, m⟩ := RpAll.shw ds _ k f
        have z : a ∉ as := fun ha => by
          obtain ⟨d', r, l⟩ := m a ha
          have e := Rp.fn _ _ _ r (.dic n h nd k)
          rw [e] at l
          have : Dt.szAll ds + 1 ≤ Dt.szAll ds := l
          omega
        have y := Shw.dic (as := []) (ts := []) (c := 0) kv h (fun p hp => fk p.1 (List.mem_map_of_mem hp)) s z .nil
        rw [zip_keys, kc_keys] at y
        refine ⟨_, y, fun x hx => ?_⟩
        rw [List.append_nil] at hx
        rcases List.mem_cons.mp hx with e | hx
        · rw [e]; exact ⟨_, .dic n h nd k, Nat.le_refl _⟩
        · obtain ⟨d', r, l⟩ := m x hx
          exact ⟨d', r, Nat.le_succ_of_le l⟩
theorem RpAll.shw : ∀ (ds : List Dt) (vs : List V), RpAll b H vs ds → FineAll ds → ∃ as, Shw H vs (Dt.depAll ds) as (Dt.shAll ds) (Dt.costAll ds) ∧ ∀ a ∈ as, ∃ d', Rp b H (.ref a) d' ∧ d'.sz ≤ Dt.szAll ds
  | [], vs, h, _ => by cases h; exact ⟨_, .nil, fun a ha => by cases ha⟩
  | d :: ds, vs, h, f => by
    cases f with
    | cons f1 f2 =>
      cases h with
      | cons h t =>
        obtain ⟨as, s1, m1⟩ := Rp.shw d _ h f1
        obtain ⟨bs, s2, m2⟩ := RpAll.shw ds _ t f2
        refine ⟨_, Shw.cons1 (s1.up (Nat.le_max_left _ _)) (s2.up (Nat.le_max_right _ _)), fun x hx => ?_⟩
        rcases List.mem_append.mp hx with hx | hx
        · obtain ⟨d', r, l⟩ := m1 x hx
          exact ⟨d', r, Nat.le_trans l (Nat.le_add_right _ _)⟩
        · obtain ⟨d', r, l⟩ := m2 x hx
          exact ⟨d', r, Nat.le_trans l (Nat.le_add_left _ _)⟩
end
end
theorem val_kk (ks : List (PySem.Str × V)) (x : PySem.Str) : valV (kk ks) (Sum.inr x) = valV ks x := by
  induction ks with
  | nil => rfl
  | cons p ks ih =>
    by_cases e : p.1 = x
    · rw [valV_pos e]
      exact valV_pos (p := ((Sum.inr p.1 : L2.Key), p.2)) (by rw [e])
    · rw [valV_neg e, ← ih]
      exact valV_neg (p := ((Sum.inr p.1 : L2.Key), p.2)) (fun z => e (Sum.inr.inj z))
theorem val_mem {ks : List (PySem.Str × V)} (nd : (ks.map (·.1)).Nodup) {p : PySem.Str × V} (h : p ∈ ks) : valV ks p.1 = some p.2 := by
  induction ks with
  | nil => cases h
  | cons q ks ih =>
    rw [List.map_cons] at nd
    obtain ⟨n1, n2⟩ := List.nodup_cons.mp nd
    rcases List.mem_cons.mp h with e | e
    · rw [e]; exact valV_pos rfl
    · have : ¬ q.1 = p.1 := fun z => n1 (by rw [z]; exact List.mem_map_of_mem e)
      rw [valV_neg this]
      exact ih n2 e
theorem mem_val {ks : List (PySem.Str × V)} {x : PySem.Str} {v : V} (h : valV ks x = some v) : (x, v) ∈ ks := by
  induction ks with
  | nil => cases h
  | cons q ks ih =>
    by_cases e : q.1 = x
    · rw [valV_pos e] at h
      cases h
      rw [← e]; exact List.mem_cons_self
    · rw [valV_neg e] at h
      exact List.mem_cons_of_mem _ (ih h)
theorem kk_len (ks : List (PySem.Str × V)) : (kk ks).length = ks.length := by unfold kk; rw [List.length_map]
section
variable {K : PySem.W.Frag} {b : Addr} {H : Hp}
/-- the values of two dicts with the same keys -/
theorem dic_at {F : V → V → Prop} : ∀ (ks ls : List (PySem.Str × V)), ks.map (·.1) = ls.map (·.1) → Paired F (ks.map (·.2)) (ls.map (·.2)) → ∀ p ∈ ks, ∃ v, (p.1, v) ∈ ls ∧ F p.2 v
  | [], _, _, _, p, hp => by cases hp
  | q :: ks, [], h, _, _, _ => by cases h
  | q :: ks, r :: ls, h, hp, p, m => by
    rw [List.map_cons, List.map_cons] at h hp
    injection h with h1 h2
    cases hp with
    | cons a t =>
      rcases List.mem_cons.mp m with e | m
      · rw [e]
        exact ⟨r.2, by rw [h1]; exact List.mem_cons_self, a⟩
      · obtain ⟨v, h3, h4⟩ := dic_at ks ls h2 t p m
        exact ⟨v, List.mem_cons_of_mem _ h3, h4⟩
mutual
theorem Rp.eqw : ∀ (d : Dt) (n : Nat) (x y : V), d.dep < n → Rp b H x d → Rp b H y d → EqW K H n x y
  | .non, n + 1, x, y, _, h1, h2 => by cases h1; cases h2; exact EqW.flat rfl
  | .bl c, n + 1, x, y, _, h1, h2 => by cases h1; cases h2; exact EqW.flat rfl
  | .int i, n + 1, x, y, _, h1, h2 => by cases h1; cases h2; exact EqW.flat rfl
  | .str t, n + 1, x, y, _, h1, h2 => by cases h1; cases h2; exact EqW.flat rfl
  | .lst ds, n + 1, x, y, l, h1, h2 => by
    have l' : Dt.depAll ds + 1 < n + 1 := l
    cases h1 with
    | lst n1 a1 k1 =>
      cases h2 with
      | lst n2 a2 k2 => exact .inr (.inr (.inl (.inl ⟨_, _, _, _, rfl, rfl, .inl (.inl a1), .inl (.inl a2), RpAll.eqw ds n _ _ (by omega) k1 k2⟩)))
  | .tup ds, n + 1, x, y, l, h1, h2 => by
    have l' : Dt.depAll ds + 1 < n + 1 := l
    cases h1 with
    | tup a1 k1 =>
      cases h2 with
      | tup a2 k2 => exact .inr (.inr (.inr ⟨_, _, _, _, rfl, rfl, .inl (.inl a1), .inl (.inl a2), RpAll.eqw ds n _ _ (by omega) k1 k2⟩))
  | .dic ks ds, n + 1, x, y, l, h1, h2 => by
    have l' : Dt.depAll ds + 1 < n + 1 := l
    generalize ek : ks = ks' at h2
    cases h1 with
    | @dic a kv _ n1 a1 d1 k1 =>
      cases h2 with
      | @dic a' lv _ n2 a2 d2 k2 =>
        refine .inr (.inr (.inl (.inr ⟨_, _, _, _, rfl, rfl, a1, a2, ?_, fun q hq => ?_⟩)))
        · rw [kk_len, kk_len]
          have := congrArg List.length ek
          rwa [List.length_map, List.length_map] at this
        · unfold kk at hq
          obtain ⟨r, hr, rfl⟩ := List.mem_map.mp hq
          obtain ⟨v, h3, h4⟩ := dic_at kv lv ek (RpAll.eqw ds n _ _ (by omega) k1 k2) r hr
          exact ⟨v, by rw [val_kk]; exact val_mem d2 h3, h4⟩
  | .non, 0, _, _, l, _, _ => absurd l (Nat.not_lt_zero _)
  | .bl _, 0, _, _, l, _, _ => absurd l (Nat.not_lt_zero _)
  | .int _, 0, _, _, l, _, _ => absurd l (Nat.not_lt_zero _)
  | .str _, 0, _, _, l, _, _ => absurd l (Nat.not_lt_zero _)
  | .lst _, 0, _, _, l, _, _ => absurd l (Nat.not_lt_zero _)
  | .tup _, 0, _, _, l, _, _ => absurd l (Nat.not_lt_zero _)
  | .dic _ _, 0, _, _, l, _, _ => absurd l (Nat.not_lt_zero _)
theorem RpAll.eqw : ∀ (ds : List Dt) (n : Nat) (xs ys : List V), Dt.depAll ds < n → RpAll b H xs ds → RpAll b H ys ds → Paired (EqW K H n) xs ys
  | [], n, xs, ys, _, h1, h2 => by cases h1; cases h2; exact .nil
  | d :: ds, n, xs, ys, l, h1, h2 => by
    have l' : max (Dt.dep d) (Dt.depAll ds) < n := l
    cases h1 with
    | cons a1 t1 =>
      cases h2 with
      | cons a2 t2 => exact .cons (Rp.eqw d n _ _ (by omega) a1 a2) (RpAll.eqw ds n _ _ (by omega) t1 t2)
end
end
/-- data that print within bounds -/
structure Gd (d : Dt) : Prop where
  fine : Fine d
  deep : d.dep ≤ 59
  cheap : d.cost ≤ 16000000
theorem Rp.dic_ref {b : Addr} {H : Hp} {v : V} {ks : List PySem.Str} {ds : List Dt} (h : Rp b H v (.dic ks ds)) : ∃ a, v = .ref a := by
  cases h
  exact ⟨_, rfl⟩
theorem Rp.two {b : Addr} {H : Hp} {x y : V} : ∀ {d : Dt}, Rp b H x d → Rp b H y d → (x = y ∧ scal x x = true) ∨ ∃ a c, x = .ref a ∧ y = .ref c
  | .non, h1, h2 => by cases h1; cases h2; exact .inl ⟨rfl, rfl⟩
  | .bl _, h1, h2 => by cases h1; cases h2; exact .inl ⟨rfl, rfl⟩
  | .int _, h1, h2 => by cases h1; cases h2; exact .inl ⟨rfl, rfl⟩
  | .str _, h1, h2 => by cases h1; cases h2; exact .inl ⟨rfl, rfl⟩
  | .lst _, h1, h2 => by cases h1; cases h2; exact .inr ⟨_, _, rfl, rfl⟩
  | .tup _, h1, h2 => by cases h1; cases h2; exact .inr ⟨_, _, rfl, rfl⟩
  | .dic _ _, h1, h2 => by
    obtain ⟨a, e⟩ := h1.dic_ref
    obtain ⟨c, e2⟩ := h2.dic_ref
    exact .inr ⟨a, c, e, e2⟩
section
variable {X : Cx}
/-- repr(x), x standing for data -/
theorem call_reprD (hg : X.A.guards = some []) (hu : X.A.units + 64 < cLine) : CallR X (.builtin "repr") (fun vs H Q => ∃ (v : V) (b : Addr) (d : Dt), vs = [v] ∧ Rp b H v d ∧ Gd d ∧ Q (.str d.sh) H) := by
  intro pins s σ H xs us Q I r h
  obtain ⟨v, b, d, rfl, hr, g, q⟩ := h
  obtain ⟨as, sw, _⟩ := Rp.shw d v hr g.fine
  exact call_reprV hg hu pins s σ H _ us Q I r ⟨v, d.dep, as, d.sh, d.cost, rfl, sw, Nat.le_trans g.deep (by decide), g.cheap, q⟩
/-- x == y, both standing for the same data -/
theorem op_eqS (hu : X.A.units + 64 < cLine) : OpR X (compareOp .Eq) (fun x y H Q => ∃ (b : Addr) (d : Dt), Rp b H x d ∧ Rp b H y d ∧ d.dep ≤ 59 ∧ Q (.bl true) H) := by
  intro pins s σ H x y v u Q I rx ry h
  obtain ⟨b, d, h1, h2, l, q⟩ := h
  rcases Rp.two h1 h2 with ⟨rfl, z⟩ | ⟨a, c, rfl, rfl⟩
  · refine op_eq pins s σ H x x v u Q I rx ry ⟨z, ?_⟩
    rw [decide_eq_true rfl]
    exact q
  · have w : EqW X.K H (d.dep + 1) (.ref a) (.ref c) := Rp.eqw d _ _ _ (Nat.lt_succ_self _) h1 h2
    rcases w with ⟨_, z⟩ | ⟨a', e1, e2⟩ | w
    · exact Bool.noConfusion z
    · have st : ∀ (d : Dt), Rp b H (.ref a) d → EqR X.K H (EqW X.K H d.dep) (.ref a) (.ref a) ∨ EqT X.K H (EqW X.K H d.dep) (.ref a) (.ref a) := by
        intro d h
        cases h with
        | @lst _ xs ds n1 a1 k1 => exact .inl (.inl ⟨_, _, _, _, rfl, rfl, .inl (.inl a1), .inl (.inl a1), RpAll.eqw ds _ _ _ (Nat.lt_succ_self _) k1 k1⟩)
        | @tup _ xs ds a1 k1 => exact .inr ⟨_, _, _, _, rfl, rfl, .inl (.inl a1), .inl (.inl a1), RpAll.eqw ds _ _ _ (Nat.lt_succ_self _) k1 k1⟩
        | @dic _ kv ds n1 a1 d1 k1 =>
          refine .inl (.inr ⟨_, _, _, _, rfl, rfl, a1, a1, rfl, fun q hq => ?_⟩)
          unfold kk at hq
          obtain ⟨r, hr, rfl⟩ := List.mem_map.mp hq
          obtain ⟨v, h3, h4⟩ := dic_at kv kv rfl (RpAll.eqw (K := X.K) ds _ _ _ (Nat.lt_succ_self _) k1 k1) r hr
          exact ⟨v, by rw [val_kk]; exact val_mem d1 h3, h4⟩
      cases e1; cases e2
      exact op_eqW hu pins s σ H _ _ v u Q I rx ry ⟨d.dep, by omega, st d h1, q⟩
    · exact op_eqW hu pins s σ H _ _ v u Q I rx ry ⟨d.dep, by omega, w, q⟩
end
/-- _law_alike, where it says yes -/
def spAlike : Sp := fun vs H Q _ => ∃ (x y : V) (b : Addr) (d : Dt), vs = [x, y] ∧ Rp b H x d ∧ Rp b H y d ∧ Gd d ∧ Q (.bl true) H
end RX
/-! Lists read by place for +=, things turned about, tuples held against (). -/
namespace RX
open PySem PySem.Spec PyProof.Rows L2
section
variable {X : Cx}
/-- xs[i], read for xs[i] op= e -/
theorem pget_lst : PGet X (fun o i H Q => ∃ (p : Addr) (xs : List V) (k : Int) (v : V), o = .ref p ∧ i = .int k ∧ H p = some (.lst xs) ∧ 0 ≤ k ∧ k < 2 ^ 63 ∧ xs[k.toNat]? = some v ∧ Q v H) := by
  intro pins s σ H o i ov iv Q I ro ri h
  obtain ⟨p, xs, k, v, rfl, rfl, hp, h0, h1, hv, q⟩ := h
  cases (show ov = Value.ref p from ro)
  obtain ⟨t, rfl⟩ := ri
  obtain ⟨its, r, ht, hz⟩ := I.list (.inl (.inl hp))
  obtain ⟨u, hu, ru⟩ := r.get hv
  exact wpAny_getItem_list ht.isList h0 h1 (by simpa using hu) ⟨v, H, I, ru, q⟩
theorem rev_bounds (n : Nat) : Builtin.Slice.sliceAdjust none none (-1) (n : Int) = ((n : Int) - 1, -1) := by
  unfold Builtin.Slice.sliceAdjust
  simp
theorem rev_places (n : Nat) : Builtin.Slice.slicePlaces ((n : Int) - 1) (-1) (-1) = n := by
  unfold Builtin.Slice.slicePlaces
  have h1 : ¬ ((-1 : Int) > 0) := by omega
  simp only [h1, if_false, Int.neg_neg, Int.ediv_one]
  split <;> omega
theorem mem_picks {α : Type} {xs : Array α} {l : List Nat} {y : α} (h : y ∈ l.filterMap (xs[·]?)) : y ∈ xs.toList := by
  obtain ⟨i, _, e⟩ := List.mem_filterMap.mp h
  rw [← Array.getElem?_toList] at e
  exact List.mem_of_getElem? e
theorem tup_rev {prog : Program} {w : World} {A : Around} {E : Value → Shared → Prop} {s : Shared} {t sl : Addr} {items : Array Value} {k : Tok} {Q : Value → Shared → Prop} (ht : IsTup s.heap t items) (hs : s.heap.IsSliceOf sl .none .none (.int (-1) k))
    (h : ∀ ys : List Value, (∀ y ∈ ys, y ∈ items.toList) → ys.length ≤ items.size → Q (.ref s.heap.objs.size) { s with heap := s.heap.push { cls := .type "tuple", data := .seq ys.toArray } })
    (hsz : items.size ≤ sizeLine) : wpAny (model prog w) A (getItem (.ref t) (.ref sl)) Q E s := by
  obtain ⟨os, hos, hcs, hds⟩ := id hs
  have hTs : s.TypeIs (.ref sl) "slice" := ⟨os, hos, hcs⟩
  let ys : List Value := (List.range items.size).filterMap fun (m : Nat) => items[(((items.size : Int) - 1) + (m : Int) * (-1)).toNat]?
  have m1 : ∀ y ∈ ys, y ∈ items.toList := fun y hy => by
    obtain ⟨i, _, e⟩ := List.mem_filterMap.mp hy
    rw [← Array.getElem?_toList] at e
    exact List.mem_of_getElem? e
  have m2 : ys.length ≤ items.size := Nat.le_trans (List.length_filterMap_le _ _) (by rw [List.length_range]; exact Nat.le_refl _)
  have hq := h ys m1 m2
  have fit : sizeOk (.seq ys.toArray) := by
    show ys.toArray.size ≤ sizeLine
    rw [List.size_toArray]
    omega
  unfold getItem
  try with_reducible refine wpAny_holding ?_
  first | refine wpAny_bind (wpAny_pure ?_) | skip
  refine wpAny_bind (wpAny_sequenceKey ht.typeIs (by decide) ?_)
  refine wpAny_bind (wpAny_callSpecial?_slot (name := PySem.Str.ofString "__getitem__") ht.typeIs PyProof.Rows.slot_tuple_getitem (wpAny_call_entry PyProof.Rows.slot_tuple_getitem ht.typeIs entry_tuple_getitem ?_ (args_tuple_getitem _ _)))
  show wpAny _ _ (Builtin.Tuple.tupleItemsOf (.ref t) >>= _) _ _ s
  refine wpAny_bind (tupleItemsOf_ ht (wpAny_bind (wpAny_typeOf hTs ?_)))
  rw [if_pos (by decide)]
  have applied : ∀ {Q' : Int × Int × Nat → Shared → Prop}, Q' ((items.size : Int) - 1, -1, items.size) s → ∀ {E' : Value → Shared → Prop} {A' : Around}, wpAny (model prog w) A' (Builtin.Slice.sliceApplied (.ref sl) (pure (items.size : Int))) Q' E' s := by
    intro Q' hq' E' A'
    unfold Builtin.Slice.sliceApplied Builtin.Slice.sliceFields
    refine wpAny_bind (wpAny_bind (wpAny_field hos hds (x := .none) rfl (wpAny_bind (wpAny_field hos hds (x := .none) rfl (wpAny_bind (wpAny_field hos hds (x := .int (-1) k) rfl (wpAny_pure ?_)))))))
    refine wpAny_bind (slicePart_int ?_)
    show wpAny _ _ (if ((-1 : Int) == 0) = true then _ else _) _ _ s
    rw [if_neg (by decide)]
    refine wpAny_bind (slicePart_none (wpAny_bind (slicePart_none (wpAny_bind (wpAny_pure ?_)))))
    show wpAny _ _ (match Builtin.Slice.sliceAdjust none none (-1) (items.size : Int) with | (lo, hi) => pure (lo, (-1 : Int), Builtin.Slice.slicePlaces lo hi (-1))) _ _ s
    rw [rev_bounds]
    show wpAny _ _ (pure ((items.size : Int) - 1, (-1 : Int), Builtin.Slice.slicePlaces ((items.size : Int) - 1) (-1) (-1))) _ _ s
    rw [rev_places]
    exact wpAny_pure hq'
  refine wpAny_bind (applied ?_)
  have no : ¬ ((((items.size : Int) - 1) == 0 && (-1 : Int) == 1 && items.size == items.size) = true) := by
    intro q
    rw [Bool.and_eq_true, Bool.and_eq_true] at q
    exact absurd q.1.2 (by decide)
  show wpAny _ _ (if (((items.size : Int) - 1) == 0 && (-1 : Int) == 1 && items.size == items.size) = true then _ else _) _ _ s
  rw [if_neg no]
  first
    | exact wpAny_bind (m := Builtin.Tuple.tupleExact _) (wpAny_newObj_type (wpAny_pure ⟨_, rfl, wpAny_pure hq⟩) fit)
    | exact wpAny_bind (m := Builtin.Tuple.tupleExact _) (wpAny_newObj_type (wpAny_bind (wpAny_pure (wpAny_pure ⟨_, rfl, wpAny_pure hq⟩))) fit)
    | exact wpAny_bind (wpAny_bind (m := Builtin.Tuple.tupleExact _) (wpAny_newObj_type (wpAny_pure (wpAny_pure ⟨_, rfl, wpAny_pure hq⟩)) fit))
    | exact wpAny_bind (wpAny_bind (m := Builtin.Tuple.tupleExact _) (wpAny_newObj_type (wpAny_pure ⟨_, rfl, wpAny_pure hq⟩) fit))
/-- t == () -/
theorem op_eqT0 (hu : X.A.units < cLine) : OpR X (compareOp .Eq) (fun x y H Q => ∃ (a b : Addr) (xs : List V), x = .ref a ∧ y = .ref b ∧ SqT X.K H a xs ∧ SqT X.K H b [] ∧ Q (.bl xs.isEmpty) H) := by
  intro pins s σ H x y v u Q I rx ry h
  obtain ⟨a, b, xs, rfl, rfl, ha, hb, q⟩ := h
  cases (show v = Value.ref a from rx)
  cases (show u = Value.ref b from ry)
  obtain ⟨i1, r1, p1, _⟩ := I.tuple ha
  obtain ⟨i2, r2, p2, _⟩ := I.tuple hb
  cases r2
  refine SeqAt.eq_tupleAt (e := fun _ => true) p1 p2 hu (fun j _ h2 => absurd h2 (Nat.not_lt_zero j)) ?_
  refine ⟨.bl xs.isEmpty, H, I, ?_, q⟩
  cases r1 with
  | nil => rfl
  | cons c d => simp [L2.RelV]
theorem cut_mem {z : PySem.Str} {lo hi : Option Int} {k : Nat} (h : k ∈ (cutS z lo hi).cps.toList) : k ∈ z.cps.toList := by
  have h' : k ∈ (z.cps.toList.drop (HT.sIx z.length 0 lo)).take (HT.sIx z.length z.length hi - HT.sIx z.length 0 lo) := h
  exact List.mem_of_mem_drop (List.mem_of_mem_take h')
/-- x[::-1], x a text or a tuple: some arrangement of its items -/
theorem pe_rev {e : Expr} {te : TE} {k : Nat} {p1 p2 p3 pos : Pos} (he : PE X e te) : PE X (.Subscript e (.Slice none none (some (.UnaryOp .USub (.Constant (.int 1) k p1) p2)) p3) pos)
    (fun σ H Q => te σ H fun x H1 => (∃ z, x = .str z ∧ z.length ≤ sizeLine ∧ ∀ y : PySem.Str, y.length ≤ z.length → (∀ k ∈ y.cps.toList, k ∈ z.cps.toList) → Q (.str y) H1) ∨
      (∃ a xs, x = .ref a ∧ SqT X.K H1 a xs ∧ ∀ p ys, H1 p = none → (∀ y ∈ ys, y ∈ xs) → ys.length ≤ xs.length → Q (.ref p) (upd H1 p (.tup ys)))) := by
  constructor
  intro pins s σ H Q I h
  refine Subscript_ (thn (he.run pins s σ H _ I h) ?_)
  rintro v s1 ⟨x, H1, I1, r1, q1⟩
  have hst : PO X (some (.UnaryOp .USub (.Constant (.int 1) k p1) p2)) (tPart (tUn (rU fun i => .int (-i)) (tC (.int 1)))) := po_some (pe_un un_neg pe_int)
  refine wpAny_Slice (thn (po_none.run pins s1 σ H1 (fun o H2 => o = none ∧ H2 = H1) I1 ⟨rfl, rfl⟩) ?_)
  rintro vl s2 ⟨l, H2, I2, pl, rfl, rfl⟩
  refine thn (po_none.run pins s2 σ H2 (fun o H3 => o = none ∧ H3 = H2) I2 ⟨rfl, rfl⟩) ?_
  rintro vu s3 ⟨u, H3, I3, pu, rfl, rfl⟩
  refine thn (hst.run pins s3 σ H3 (fun o H4 => o = some (-1) ∧ H4 = H3) I3 ⟨1, rfl, -1, rfl, rfl, rfl⟩) ?_
  rintro vs s4 ⟨o, H4, I4, ps, rfl, rfl⟩
  cases pl
  cases pu
  obtain ⟨tk, rfl⟩ : ∃ tk, vs = .int (-1) tk := by cases ps with | int i t => exact ⟨t, rfl⟩
  have I5 : Inv X pins σ H4 { s4 with heap := s4.heap.push { cls := .type "slice", data := .fields #[Value.none, Value.none, .int (-1) tk] } } := I4.kept (t' := s4.toks) fun b ob q => Heap.get?_push_of_some _ q
  show wpAny (model X.prog X.w) X.A (subscriptTail e (.Slice none none (some (.UnaryOp .USub (.Constant (.int 1) k p1) p2)) p3) v (.ref s4.heap.objs.size)) (EP X pins σ Q) X.xe _
  rcases q1 with ⟨z, rfl, hz, q⟩ | ⟨a, xs, rfl, hx, q⟩
  · obtain ⟨t, rfl⟩ := r1
    refine tail_any (ops := [.str z t, .ref s4.heap.objs.size]) (typeIs_str _ z t) F.slot_str_getitem.lookup ?_ (by with_unfolding_all rfl)
    refine wpAny_getItem_str_slice (l := none) (u := none) (st := some (-1, tk)) ⟨_, Heap.get?_push_size _ rfl, rfl, rfl⟩ rfl ?_
    let y : PySem.Str := ⟨((slicePicked z none none (some (-1, tk))).filterMap (z.cps[·]?)).toArray⟩
    have e1 : slicePicked z none none (some (-1, tk)) = (List.range z.length).map fun k => z.length - 1 - k := by
      show Builtin.Str.strSliceIndices none none (-1) z.length = _
      unfold Builtin.Str.strSliceIndices
      simp only [show ¬ ((-1 : Int) > 0) by decide, if_false]
      exact PySem.W.krv_sliceRange z.length
    have e2 : y.length ≤ z.length := by
      show (((slicePicked z none none (some (-1, tk))).filterMap (z.cps[·]?)).toArray).size ≤ z.length
      rw [List.size_toArray]
      refine Nat.le_trans (List.length_filterMap_le _ _) ?_
      rw [e1, List.length_map, List.length_range]
      exact Nat.le_refl _
    have e3 : ∀ k ∈ y.cps.toList, k ∈ z.cps.toList := fun k hk => mem_picks hk
    have hq := q y e2 e3
    unfold sliceMade
    rw [if_neg (by intro c; exact absurd (show ((-1 : Int) == 1) = true from (Bool.and_eq_true_iff.mp c).1) (by decide))]
    exact ⟨by show y.length ≤ sizeLine; omega, .str y, H4, I5.tok _, ⟨_, rfl⟩, hq⟩
  · cases (show v = Value.ref a from r1)
    obtain ⟨its, r, ht, hz⟩ := I5.tuple hx
    refine tail_any (ops := [.ref a, .ref s4.heap.objs.size]) ht.typeIs PyProof.Rows.slot_tuple_getitem.lookup ?_ (by with_unfolding_all rfl)
    refine tup_rev ht (Heap.IsSliceOf.new _ _ _ _) (fun ys hy hl => ?_) (by rw [List.size_toArray, ← r.length]; exact hz)
    obtain ⟨zs, rz, hzs⟩ : ∃ zs : List V, Vals zs ys ∧ ∀ y ∈ zs, y ∈ xs := by
      clear hl
      induction ys with
      | nil => exact ⟨[], .nil, fun y hy => by cases hy⟩
      | cons y ys ih =>
        obtain ⟨zs, rz, hzs⟩ := ih fun w hw => hy w (List.mem_cons_of_mem _ hw)
        obtain ⟨j, hj⟩ := List.mem_iff_getElem?.mp (hy y List.mem_cons_self)
        have hj' : its[j]? = some y := by simpa using hj
        rcases Option.eq_none_or_eq_some (xs[j]?) with n | ⟨x, n⟩
        · have := r.none_of n
          rw [this] at hj'; cases hj'
        · obtain ⟨u, hu, ru⟩ := r.get n
          rw [hj'] at hu
          cases hu
          exact ⟨x :: zs, .cons ru rz, fun w hw => by
            rcases List.mem_cons.mp hw with e | e
            · exact e ▸ List.mem_of_getElem? n
            · exact hzs w e⟩
    have hlen : zs.length ≤ xs.length := by
      rw [rz.length, r.length]
      rw [List.size_toArray] at hl
      exact hl
    have hn := I5.hok.fresh (Nat.le_refl _)
    refine ⟨.ref _, _, I5.laid (t' := s4.toks) (o := .tup zs) (fun b ob q => Heap.get?_push_of_some _ q) (Nat.le_refl _) ?_, rfl, q _ zs hn hzs hlen⟩
    exact ⟨by omega, _, rz, IsTup.new _ _⟩
end
end RX
/-! The bag of drawn numbers; what stays. -/
namespace RX
open PySem PySem.Spec PyProof.Rows L2
/-- all but b is as it was -/
structure Chb (b : Addr) (H H' : Hp) : Prop where
  app : ∀ a o, a ≠ b → H a = some o → H' a = some o
  fo : ∀ x y z l, H b = some (.lst [x, y, z, l]) → ∃ x y z, H' b = some (.lst [x, y, z, l])
instance {b : Addr} {H H' : Hp} : CoeFun (Chb b H H') (fun _ => ∀ a o, a ≠ b → H a = some o → H' a = some o) := ⟨Chb.app⟩
theorem Chb.refl {b : Addr} {H : Hp} : Chb b H H := ⟨fun _ _ _ h => h, fun _ _ _ _ h => ⟨_, _, _, h⟩⟩
theorem Chb.trans {b : Addr} {H H1 H2 : Hp} (x : Chb b H H1) (y : Chb b H1 H2) : Chb b H H2 := ⟨fun a o n h => y.app a o n (x.app a o n h), fun p q r l h => by
  obtain ⟨_, _, _, h1⟩ := x.fo p q r l h
  exact y.fo _ _ _ _ h1⟩
theorem Chb.new {b p : Addr} {o : HO} {H : Hp} (h : H p = none) : Chb b H (upd H p o) := ⟨fun a u _ e => by rw [upd_ne (ne_of_none e h)]; exact e, fun x y z l e => ⟨x, y, z, by rw [upd_ne (ne_of_none e h)]; exact e⟩⟩
theorem Chb.set {b : Addr} {x y z l x' y' z' : V} {H : Hp} (h : H b = some (.lst [x, y, z, l])) : Chb b H (upd H b (.lst [x', y', z', l])) := ⟨fun a u n e => by rw [upd_ne n]; exact e, fun p q r m e => by
  rw [h] at e
  cases e
  exact ⟨_, _, _, upd_same⟩⟩
theorem Chb.same {b : Addr} {H H' : Hp} (h : ∀ a o, H a = some o → H' a = some o) : Chb b H H' := ⟨fun a o _ e => h a o e, fun x y z l e => ⟨x, y, z, h _ _ e⟩⟩
theorem new_ne {H : Hp} {a p : Addr} {o u : HO} (ha : H a = some o) (hp : H p = none) : (upd H p u) a = some o := by rw [upd_ne (ne_of_none ha hp)]; exact ha
theorem new_same {H : Hp} {p : Addr} {o : HO} (h : H p = none) : Same H (upd H p o) := fun a u e => new_ne e h
/-- the bag at b -/
def Bag (H : Hp) (b : Addr) : Prop := ∃ (n m k : Int) (l : Addr) (cs : List Int), H b = some (.lst [.int n, .int m, .int k, .ref l]) ∧ H l = some (.lst (cs.map V.int)) ∧ l ≠ b ∧ 0 ≤ n ∧ 0 ≤ m ∧ m < 2147483647 ∧ cs.length ≤ 63 ∧ ∀ c ∈ cs, 0 ≤ c
theorem head_int {cs : List Int} (hc : ∀ c ∈ cs, 0 ≤ c) (lo hi : Option Int) : ∃ c : Int, 0 ≤ c ∧ atI (cutV (cs.map V.int) lo hi ++ [.int 0]) 0 = some (.int c) := by
  have sub : ∀ v ∈ cutV (cs.map V.int) lo hi, ∃ c, 0 ≤ c ∧ v = .int c := fun v hv => by
    have h1 := List.mem_of_mem_drop (List.mem_of_mem_take hv)
    obtain ⟨c, hc', e⟩ := List.mem_map.mp h1
    exact ⟨c, hc c hc', e.symm⟩
  generalize cutV (cs.map V.int) lo hi = zs at sub
  cases zs with
  | nil => exact ⟨0, by omega, rfl⟩
  | cons v zs =>
    obtain ⟨c, h0, rfl⟩ := sub v List.mem_cons_self
    exact ⟨c, h0, atI_nat (j := 0) rfl⟩
theorem Bag.same {b : Addr} {H H' : Hp} (B : Bag H b) (s : Same H H') : Bag H' b := by
  obtain ⟨n, m, k, l, cs, hb, hl, r⟩ := B
  exact ⟨n, m, k, l, cs, s _ _ hb, s _ _ hl, r⟩
theorem Bag.lst {b : Addr} {H : Hp} (B : Bag H b) : ∃ o, H b = some o := by
  obtain ⟨n, m, k, l, cs, hb, _⟩ := B
  exact ⟨_, hb⟩
/-- the bag's own list -/
def Own (H : Hp) (b l : Addr) : Prop := ∃ x y z, H b = some (.lst [x, y, z, .ref l])
theorem Bag.own {b : Addr} {H : Hp} (B : Bag H b) : ∃ l cs, Own H b l ∧ H l = some (.lst cs) ∧ l ≠ b := by
  obtain ⟨n, m, k, l, cs, hb, hl, hne, _⟩ := B
  exact ⟨l, _, ⟨_, _, _, hb⟩, hl, hne⟩
theorem Own.chb {b l : Addr} {H H' : Hp} (o : Own H b l) (c : Chb b H H') : Own H' b l := by
  obtain ⟨x, y, z, h⟩ := o
  exact c.fo _ _ _ _ h
/-- another object changed -/
theorem Bag.set {b l r : Addr} {H : Hp} {o : HO} (B : Bag H b) (w : Own H b l) (h1 : r ≠ b) (h2 : r ≠ l) : Bag (upd H r o) b ∧ Own (upd H r o) b l := by
  obtain ⟨n, m, k, l', cs, hb, hl, rest⟩ := B
  obtain ⟨x, y, z, hw⟩ := w
  rw [hb] at hw
  cases hw
  have e1 : upd H r o b = some (.lst [.int n, .int m, .int k, .ref l]) := by rw [upd_ne h1.symm]; exact hb
  have e2 : upd H r o l = some (.lst (cs.map V.int)) := by rw [upd_ne h2.symm]; exact hl
  exact ⟨⟨n, m, k, l, cs, e1, e2, rest⟩, ⟨_, _, _, e1⟩⟩
theorem Chb.put {b r : Addr} {H H' : Hp} {o : HO} (c : Chb b H H') (n : H r = none) (h : r ≠ b) : Chb b H (upd H' r o) := ⟨fun a u ne e => by
  rw [upd_ne (ne_of_none e n)]
  exact c.app a u ne e, fun x y z l e => by
  obtain ⟨p, q, s, e'⟩ := c.fo x y z l e
  exact ⟨p, q, s, by rw [upd_ne h.symm]; exact e'⟩⟩
section
variable {X : Cx} {e : Expr}
/-- a test, what holds behind it said once -/
theorem pt_mid {t : TT} (h : PT X e t) : PT X e (fun σ H Q => ∃ M : Bool → Hp → Prop, t σ H M ∧ ∀ c H', M c H' → Q c H') := by
  constructor
  intro pins s σ H Q I ⟨M, hm, k⟩
  exact thn (h.run pins s σ H M I hm) fun c s1 ⟨H1, I1, q⟩ => ⟨H1, I1, k c H1 q⟩
theorem pe_mid {t : TE} (h : PE X e t) : PE X e (fun σ H Q => ∃ M : V → Hp → Prop, t σ H M ∧ ∀ x H', M x H' → Q x H') := by
  constructor
  intro pins s σ H Q I ⟨M, hm, k⟩
  exact thn (h.run pins s σ H M I hm) fun c s1 ⟨x, H1, I1, r, q⟩ => ⟨x, H1, I1, r, k x H1 q⟩
end
theorem ne_new {b p : Addr} {H : Hp} {o : HO} (hb : H b = some o) (hp : H p = none) : b ≠ p := ne_of_none hb hp
/-- all tuples stay -/
def KT (H H' : Hp) : Prop := ∀ a xs, H a = some (.tup xs) → H' a = some (.tup xs)
theorem KT.trans {H H1 H2 : Hp} (x : KT H H1) (y : KT H1 H2) : KT H H2 := fun a xs h => y a xs (x a xs h)
theorem KT.same {H H' : Hp} (s : Same H H') : KT H H' := fun a xs h => s _ _ h
theorem KT.new {H : Hp} {p : Addr} {o : HO} (n : H p = none) : KT H (upd H p o) := KT.same (new_same n)
theorem KT.lst {H : Hp} {p : Addr} {o : HO} {xs : List V} (n : H p = some (.lst xs)) : KT H (upd H p o) := fun a ys h => by
  rw [upd_ne (fun z => by rw [z, n] at h; cases h)]
  exact h
theorem KT.dic {H : Hp} {p : Addr} {o : HO} {xs : List (L2.Key × V)} (n : H p = some (.dK xs)) : KT H (upd H p o) := fun a ys h => by
  rw [upd_ne (fun z => by rw [z, n] at h; cases h)]
  exact h
theorem Chb.kt {b : Addr} {H H' : Hp} (B : Bag H b) (c : Chb b H H') : KT H H' := fun a xs h => by
  obtain ⟨n, m, k, l, cs, hb, _⟩ := B
  exact c _ _ (fun z => by rw [z, hb] at h; cases h) h
theorem perm_map_inv {α β : Type} {f : α → β} {ys zs : List β} (p : ys.Perm zs) : ∀ L : List α, zs = L.map f → ∃ L' : List α, L'.Perm L ∧ ys = L'.map f := by
  induction p with
  | nil =>
    intro L h
    cases L with
    | nil => exact ⟨[], .nil, rfl⟩
    | cons a L => cases h
  | cons x p ih =>
    intro L h
    cases L with
    | nil => cases h
    | cons a L =>
      rw [List.map_cons] at h
      injection h with h1 h2
      obtain ⟨L', q, e⟩ := ih L h2
      exact ⟨a :: L', q.cons a, by rw [List.map_cons, h1, e]⟩
  | swap x y l =>
    intro L h
    cases L with
    | nil => cases h
    | cons a L =>
      cases L with
      | nil => rw [List.map_cons] at h; injection h with _ h2; cases h2
      | cons c L =>
        rw [List.map_cons, List.map_cons] at h
        injection h with h1 h2
        injection h2 with h2 h3
        exact ⟨c :: a :: L, List.Perm.swap a c L, by rw [List.map_cons, List.map_cons, h1, h2, h3]⟩
  | trans p1 p2 i1 i2 =>
    intro L h
    obtain ⟨L1, q1, e1⟩ := i2 L h
    obtain ⟨L2, q2, e2⟩ := i1 L1 e1
    exact ⟨L2, q2.trans q1, e2⟩
theorem nodup_le {α : Type} [DecidableEq α] : ∀ {xs ys : List α}, xs.Nodup → (∀ x ∈ xs, x ∈ ys) → xs.length ≤ ys.length
  | [], ys, _, _ => Nat.zero_le _
  | x :: xs, ys, h, m => by
    obtain ⟨h1, h2⟩ := List.nodup_cons.mp h
    have hx : x ∈ ys := m x List.mem_cons_self
    have ih := nodup_le (xs := xs) (ys := ys.erase x) h2 fun y hy => (List.mem_erase_of_ne (fun e : y = x => h1 (by rw [← e]; exact hy))).mpr (m y (List.mem_cons_of_mem _ hy))
    rw [List.length_erase_of_mem hx] at ih
    have : 0 < ys.length := List.length_pos_of_mem hx
    rw [List.length_cons]
    omega
theorem same_no {H H' : Hp} {p : Addr} (s : Same H H') (h : H' p = none) : H p = none := by
  cases e : H p with
  | none => rfl
  | some o => have := s _ _ e; rw [h] at this; cases this
theorem all_cons {α : Type} {F : α → Prop} {x : α} {xs : List α} (h : F x) (t : ∀ v ∈ xs, F v) : ∀ v ∈ x :: xs, F v := fun v hv => by
  rcases List.mem_cons.mp hv with e | e
  · exact e ▸ h
  · exact t v e
section
variable {b : Addr} {H H' : Hp}
theorem kp_chb (B : Bag H b) (c : Chb b H H') : Kp b H H' := fun a o e n1 n2 => by
  by_cases z : a = b
  · subst z
    obtain ⟨n, m, k, l, cs, hb, _⟩ := B
    rw [hb] at e
    cases e
    exact absurd rfl (n1 _ rfl)
  · exact c _ _ z e
theorem Rp.chb {v : V} {d : Dt} (h : Rp b H v d) (B : Bag H b) (c : Chb b H H') : Rp b H' v d := Rp.kp (kp_chb B c) d v h
theorem RpAll.chb {vs : List V} {ds : List Dt} (h : RpAll b H vs ds) (B : Bag H b) (c : Chb b H H') : RpAll b H' vs ds := RpAll.kp (kp_chb B c) ds vs h
theorem rp_strs : ∀ xs : List PySem.Str, RpAll b H (xs.map V.str) (xs.map Dt.str)
  | [] => .nil
  | x :: xs => .cons (.str x) (rp_strs xs)
theorem rp_app {vs us : List V} {ds es : List Dt} (h : RpAll b H vs ds) (k : RpAll b H us es) : RpAll b H (vs ++ us) (ds ++ es) := by
  induction vs generalizing ds with
  | nil => cases h; exact k
  | cons v vs ih =>
    cases h with
    | cons a t => exact .cons a (ih t)
end
end RX
/-! The draws. -/
namespace V73
open PySem PySem.Spec PyProof.Rows L2 TL RX
def topS (i : Nat) : Stmt := PySem.Challenge.pw_packsworn_k73_manifests_and_texts.main.body.getD i (.Pass ⟨0, 0, 0, 0⟩)
abbrev sTake : Stmt := topS 21
abbrev sOne : Stmt := topS 22
abbrev sBag : Stmt := topS 20
abbrev sAlike : Stmt := topS 24
theorem scTake : FnScope ["bag", "many", "cell", "stirred", "value", "begin", "second"] ["bag", "many"] (defScope sTake) := ⟨rfl, rfl, rfl, by decide +kernel, rfl, by decide +kernel, by decide +kernel⟩
theorem scOne : FnScope ["bag", "things"] ["bag", "things"] (defScope sOne) := ⟨rfl, rfl, rfl, by decide +kernel, rfl, by decide +kernel, by decide +kernel⟩
theorem scBag : FnScope ["script", "cell"] ["script"] (defScope sBag) := ⟨rfl, rfl, rfl, by decide +kernel, rfl, by decide +kernel, by decide +kernel⟩
theorem scAlike : FnScope ["found", "due"] ["found", "due"] (defScope sAlike) := ⟨rfl, rfl, rfl, by decide +kernel, rfl, by decide +kernel, by decide +kernel⟩
section
variable {P : Program} {w : World} {K : PySem.W.Frag} {mg : PySem.Str → Option Value} {base : Heap}
def spTake : Sp := fun vs H Q _ => ∃ (b : Addr) (many : Int), vs = [.ref b, .int many] ∧ Bag H b ∧ 0 < many ∧ many < 1073741824 ∧ ∀ H' v, Chb b H H' → Bag H' b → 0 ≤ v → v < many → Q (.int v) H'
theorem ok_take {f : Addr} {fd : FuncData} {k : Nat} (F : Fun K "_law_take" "_law_take" sTake f fd) (mI : mg "int" = none) : FnOk P w K mg base CX0 (k + 1) f fd ["bag", "many"] spTake := by
  refine F.ok scTake (fun vs H Q E h => ?_) (fun cdv A outer s H vs Q E hr h => ?_)
  · obtain ⟨b, many, rfl, _⟩ := h
    rfl
  · obtain ⟨b, many, rfl, hB, hm0, hm1, q⟩ := h
    refine ⟨_, C8.pss_cut (ps_if (pt_cmpR op_eq (pe_ix ix_list (pv 0) pe_int (fun _ _ => rfl)) pe_int (nomark _))
        (pss_cons (ps_set (i := 2) scTake.nd rfl (.inl rfl) (pe_ix ix_list (pe_op op_cat (pe_slice sl_list (pe_ix ix_list (pv 0) pe_int (fun _ _ => rfl)) (po_some (pe_ix ix_list (pv 0) pe_int (fun _ _ => rfl))) po_none) (pe_lst (pa_cons pe_int pa_nil))) pe_int (fun _ _ => rfl)))
        (pss_cons (ps_augS (pv 0) pe_int pget_lst pe_int ip_add set_list)
        (C8.pss_cut (ps_if (pt_cmpR op_ge (pv 2) (pe_op op_pow pe_int pe_int) (nomark _)) (pss_one (ps_asg (pv 2) (pg_sub (pv 0) pe_int set_list))) pss_nil)
        (pss_cons (ps_set (i := 3) scTake.nd rfl (.inl rfl) (pe_op op_add (pe_op op_add (pe_op op_mul (pe_ix ix_list (pv 0) pe_int (fun _ _ => rfl)) pe_int) (pe_op op_mod (pe_callTy call_int1 (by rfl) mI (by decide +kernel) (pa_cons (pv 2) pa_nil)) pe_int)) (pe_op op_mul pe_int (pe_ix ix_list (pv 0) pe_int (fun _ _ => rfl)))))
        (pss_one (ps_asg (pe_op op_mod (pe_callTy call_int1 (by rfl) mI (by decide +kernel) (pa_cons (pv 3) pa_nil)) pe_int) (pg_sub (pv 0) pe_int set_list)))))))
        pss_nil)
      (pss_cons (ps_if (pt_cmpR op_gt (pe_ix ix_list (pv 0) pe_int (fun _ _ => rfl)) pe_int (nomark _))
        (pss_cons (ps_set (i := 4) scTake.nd rfl (.inl rfl) (pe_op op_mod (pe_callTy call_int1 (by rfl) mI (by decide +kernel) (pa_cons (pe_ix ix_list (pv 0) pe_int (fun _ _ => rfl)) pa_nil)) (pv 1)))
        (pss_cons (ps_asg (pe_op op_fdiv (pe_callTy call_int1 (by rfl) mI (by decide +kernel) (pa_cons (pe_ix ix_list (pv 0) pe_int (fun _ _ => rfl)) pa_nil)) (pv 1)) (pg_sub (pv 0) pe_int set_list))
        (pss_one (ps_ret (pv 4)))))
        pss_nil)
      (pss_cons (ps_set (i := 5) scTake.nd rfl (.inl rfl) (pe_op op_mod (pe_callTy call_int1 (by rfl) mI (by decide +kernel) (pa_cons (pe_op op_mul (pe_op op_add (pe_ix ix_list (pv 0) pe_int (fun _ _ => rfl)) pe_int) pe_int) pa_nil)) pe_int))
      (pss_cons (ps_set (i := 6) scTake.nd rfl (.inl rfl) (pe_op op_mod (pe_callTy call_int1 (by rfl) mI (by decide +kernel) (pa_cons (pe_op op_mul (pe_op op_mod (pe_callTy call_int1 (by rfl) mI (by decide +kernel) (pa_cons (pe_op op_mul (pv 5) (pv 5)) pa_nil)) pe_int) pe_int) pa_nil)) pe_int))
      (pss_one (ps_ret (pe_op op_mod (pe_callTy call_int1 (by rfl) mI (by decide +kernel) (pa_cons (pe_op op_fdiv (pv 6) pe_int) pa_nil)) (pv 1))))))), ?_⟩
    obtain ⟨n, m, k, l, cs, hb, hl, hne, h0, h1, h2, h3, hcs⟩ := hB
    refine ⟨fun σ' H' => ∃ y2 y3, σ' = [some (.ref b), some (.int many), y2, y3, none, none, none] ∧ Chb b H H' ∧ Bag H' b, ?_, fun σ' H' hM => ?_⟩
    · refine ⟨.ref b, rfl, b, _, 0, .int n, rfl, rfl, .inl (.inl hb), rfl, rfl, _, rfl, ite2 (fun e => ?_) (fun e => ?_)⟩
      · obtain ⟨c, hc0, hc⟩ := head_int hcs (some k) none
        refine ⟨.ref b, rfl, b, _, 3, .ref l, rfl, rfl, .inl (.inl hb), rfl, .ref b, rfl, b, _, 2, .int k, rfl, rfl, .inl (.inl hb), rfl, k, rfl, l, _, rfl, .inl (.inl hl), fun p np => ⟨by show 1 ≤ sizeLine; decide, fun o no => ?_⟩⟩
        refine ⟨p, o, _, _, rfl, rfl, new_ne upd_same no, upd_same, ?_, fun r nr => ?_⟩
        · have := cutV_length (cs.map V.int) (some k) none
          rw [List.length_map] at this
          rw [sizeLine_eq]
          show _ + 1 ≤ _
          omega
        · refine ⟨r, _, 0, .int c, rfl, rfl, .inl (.inl upd_same), hc, ?_⟩
          generalize hH3 : upd (upd (upd H p _) o _) r _ = H3
          have c3 : Same H H3 := by rw [← hH3]; exact ((new_same np).trans (new_same no)).trans (new_same nr)
          have hb3 := c3 _ _ hb
          refine ⟨.ref b, rfl, b, _, 2, .int k, rfl, rfl, hb3, by decide, by decide, rfl, k, 1, rfl, rfl, b, _, 2, 2, rfl, rfl, hb3, rfl, ?_⟩
          refine ⟨fun σ' H' => σ' = [some (.ref b), some (.int many), some (.int c), none, none, none, none] ∧ Chb b H H' ∧ ∃ n', 0 ≤ n' ∧ H' b = some (.lst [.int n', .int m, .int (k + 1), .ref l]), ?_, fun σ' H' hM => ?_⟩
          · refine ⟨_, rfl, 10, 18, rfl, rfl, ⟨by decide, by decide, by decide⟩, c, _, rfl, rfl, _, rfl, ite2 (fun e2 => ?_) (fun e2 => ?_)⟩
            · exact ⟨_, rfl, .ref b, rfl, b, _, 0, 0, rfl, rfl, upd_same, rfl, rfl, ((Chb.same c3).trans (Chb.set hb3)).trans (Chb.set upd_same), c, hc0, upd_same⟩
            · exact ⟨rfl, (Chb.same c3).trans (Chb.set hb3), n, h0, upd_same⟩
          · obtain ⟨rfl, hC, n', hn', hb5⟩ := hM
            refine ⟨.ref b, rfl, b, _, 1, .int m, rfl, rfl, .inl (.inl hb5), rfl, m, 48271, rfl, rfl, .inl ⟨by omega, by omega⟩, _, rfl, .inl ⟨c, rfl, c, 2147483647, rfl, rfl, (by show (0 : Int) < 2147483647; decide), _, _, rfl, rfl, .ref b, rfl, b, _, 2, .int (k + 1), rfl, rfl, .inl (.inl hb5), rfl, 7919, k + 1, rfl, rfl, .inl ⟨by decide, by decide⟩, _, _, rfl, rfl, ?_⟩⟩
            refine ⟨_, rfl, .inl ⟨_, rfl, _, 2147483647, rfl, rfl, (by show (0 : Int) < 2147483647; decide), .ref b, rfl, b, _, 1, 1, rfl, rfl, hb5, rfl, ?_⟩⟩
            refine ⟨_, _, rfl, hC.trans (Chb.set hb5), n', _, k + 1, l, cs, upd_same, ?_, hne, hn', Int.emod_nonneg _ (by decide), Int.emod_lt_of_pos _ (by decide), h3, hcs⟩
            rw [upd_ne hne]
            exact hC _ _ hne hl
      · exact ⟨none, none, rfl, Chb.refl, n, m, k, l, cs, hb, hl, hne, h0, h1, h2, h3, hcs⟩
    · clear hb hl hne h0 h1 h2 h3 hcs
      obtain ⟨y2, y3, rfl, hC, n, m, k, l, cs, hb, hl, hne, h0, h1, h2, h3, hcs⟩ := hM
      refine ⟨.ref b, rfl, b, _, 0, .int n, rfl, rfl, .inl (.inl hb), rfl, n, 0, rfl, rfl, _, rfl, ite2 (fun e => ?_) (fun e => ?_)⟩
      · refine ⟨.ref b, rfl, b, _, 0, .int n, rfl, rfl, .inl (.inl hb), rfl, .inl ⟨n, rfl, _, rfl, n, many, rfl, rfl, hm0, ?_⟩⟩
        refine ⟨.ref b, rfl, b, _, 0, .int n, rfl, rfl, .inl (.inl hb), rfl, .inl ⟨n, rfl, _, rfl, n, many, rfl, rfl, ⟨hm0, hm1⟩, .ref b, rfl, b, _, 0, 0, rfl, rfl, hb, rfl, _, rfl, ?_⟩⟩
        refine q _ _ (hC.trans (Chb.set hb)) ⟨n / many, m, k, l, cs, upd_same, ?_, hne, Int.ediv_nonneg h0 (by omega), h1, h2, h3, hcs⟩ (Int.emod_nonneg _ (by omega)) (Int.emod_lt_of_pos _ hm0)
        rw [upd_ne hne]
        exact hl
      · have hB' : Bag H' b := ⟨n, m, k, l, cs, hb, hl, hne, h0, h1, h2, h3, hcs⟩
        refine ⟨.ref b, rfl, b, _, 1, .int m, rfl, rfl, .inl (.inl hb), rfl, m, 1, rfl, rfl, m + 1, 39373, rfl, rfl, .inl ⟨by omega, by omega⟩, .inl ⟨_, rfl, _, 1000000007, rfl, rfl, (by show (0 : Int) < 1000000007; decide), ?_⟩⟩
        have b0 := Int.emod_nonneg ((m + 1) * 39373) (show (1000000007 : Int) ≠ 0 by decide)
        have b1 := Int.emod_lt_of_pos ((m + 1) * 39373) (show (0 : Int) < 1000000007 by decide)
        refine ⟨_, rfl, _, rfl, (m + 1) * 39373 % 1000000007, (m + 1) * 39373 % 1000000007, rfl, rfl, .inl ⟨by omega, by omega⟩, ?_⟩
        generalize (m + 1) * 39373 % 1000000007 = begn at b0 b1
        have d0 := Int.emod_nonneg (begn * begn) (show (998244353 : Int) ≠ 0 by decide)
        have d1 := Int.emod_lt_of_pos (begn * begn) (show (0 : Int) < 998244353 by decide)
        refine .inl ⟨_, rfl, _, 998244353, rfl, rfl, (by show (0 : Int) < 998244353; decide), _, 30011, rfl, rfl, .inl ⟨by omega, by omega⟩, .inl ⟨_, rfl, _, 998244353, rfl, rfl, (by show (0 : Int) < 998244353; decide), ?_⟩⟩
        refine ⟨_, rfl, _, 7, rfl, rfl, ⟨by decide, by decide⟩, .inl ⟨_, rfl, _, rfl, _, many, rfl, rfl, hm0, ?_⟩⟩
        exact q _ _ hC hB' (Int.emod_nonneg _ (by omega)) (Int.emod_lt_of_pos _ hm0)
/-- one of some things -/
def spOne : Sp := fun vs H Q _ => ∃ (b t : Addr) (xs : List V), vs = [.ref b, .ref t] ∧ Bag H b ∧ H t = some (.lst xs) ∧ t ≠ b ∧ xs ≠ [] ∧ xs.length ≤ 1000 ∧ ∀ H' x, Chb b H H' → Bag H' b → x ∈ xs → Q x H'
theorem ok_one {f fT : Addr} {fd fdT : FuncData} {k : Nat} (F : Fun K "_law_one" "_law_one" sOne f fd) (FT : Fun K "_law_take" "_law_take" sTake fT fdT) (bT : Binds K fdT ["bag", "many"] []) (gT : mg "_law_take" = some (.ref fT))
    (mI : mg "int" = none) (mL : mg "len" = none) : FnOk P w K mg base CX0 (k + 2) f fd ["bag", "things"] spOne := by
  have GT : FnOk P w K mg base CX0 (k + 1) fT fdT ["bag", "many"] spTake := ok_take FT mI
  refine F.ok scOne (fun vs H Q E h => ?_) (fun cdv A outer s H vs Q E hr h => ?_)
  · obtain ⟨b, t, xs, rfl, _⟩ := h
    rfl
  · obtain ⟨b, t, xs, rfl, hB, ht, hne, hx, hl, q⟩ := h
    refine ⟨_, pss_one (ps_ret (pe_ix ix_list (pv 1) (pe_call GT hr (by rfl) gT FT.kp bT .nil pass0 (pa_cons (pv 0) (pa_cons (pe_callB call_len_seq (by rfl) mL PySem.boot_len (pa_cons (pv 1) pa_nil)) pa_nil))) (fun _ _ => rfl))), ?_⟩
    have pos : 0 < xs.length := List.length_pos_iff.mpr hx
    refine ⟨.ref t, rfl, .ref b, rfl, .ref t, rfl, t, xs, rfl, .inl (.inl (.inl ht)), b, _, rfl, hB, by omega, by omega, fun H' v hC hB' v0 v1 => ?_⟩
    have hi : v.toNat < xs.length := by omega
    refine ⟨t, xs, v, xs[v.toNat], rfl, rfl, .inl (.inl (hC _ _ hne ht)), ?_, q H' _ hC hB' (List.getElem_mem hi)⟩
    have e : ((v.toNat : Nat) : Int) = v := by omega
    have z := atI_nat (j := v.toNat) (List.getElem?_eq_getElem hi)
    rw [e] at z
    exact z
def spBag (K : PySem.W.Frag) : Sp := fun vs H Q _ => ∃ (a : Addr) (ns : List Int), vs = [.ref a] ∧ SqL K H a (ns.map V.int) ∧ ns.length ≤ 63 ∧ ∀ H' b, Same H H' → H b = none → Bag H' b → Q (.ref b) H'
theorem ok_bag {f : Addr} {fd : FuncData} {k : Nat} (F : Fun K "_law_bag" "_law_bag" sBag f fd) (mA : mg "abs" = none) : FnOk P w K mg base CX0 (k + 1) f fd ["script"] (spBag K) := by
  refine F.ok scBag (fun vs H Q E h => ?_) (fun cdv A outer s H vs Q E hr h => ?_)
  · obtain ⟨a, ns, rfl, _⟩ := h
    rfl
  · obtain ⟨a, ns, rfl, hS, hl, q⟩ := h
    refine ⟨_, pss_one (ps_ret (pe_lst (pa_cons pe_int (pa_cons pe_int (pa_cons pe_int (pa_cons (pe_lc (own := [("cell", 1)]) (g := gName 1) rfl scBag.nd (pi_list (pe_slice sl_list (pv 0) po_none (po_some pe_int))) (blkOk_by (N := ["script", "cell"]) (sc := defScope sBag) (by decide +kernel))
      (fun _ _ _ _ _ => pg_name (i := 1) scBag.nd rfl (Or.inl rfl)) (fun _ _ _ _ _ => pts_nil) (fun _ _ _ _ _ => pe_callB call_abs (by rfl) mA (by decide +kernel) (pa_cons (pv 1) pa_nil))) pa_nil)))))), ?_⟩
    refine ⟨.ref a, rfl, 63, rfl, a, _, rfl, hS, fun p np => ⟨p, rfl, ⟨_, .inl (.inl upd_same)⟩, fun D nD => ?_⟩⟩
    generalize hzs : cutV (ns.map V.int) none (some 63) = zs at nD ⊢
    have hz : zs.length ≤ 63 := by
      rw [← hzs]
      refine Nat.le_trans (cutV_length _ _ _) ?_
      rw [List.length_map]
      exact hl
    have hint : ∀ v ∈ zs, ∃ c, v = V.int c := by
      intro v hv
      rw [← hzs] at hv
      obtain ⟨c, _, e⟩ := List.mem_map.mp (List.mem_of_mem_drop (List.mem_of_mem_take hv))
      exact ⟨c, e.symm⟩
    have pD : p ≠ D := ne_of_none upd_same nD
    have nDH : H D = none := by
      cases z : H D with
      | none => rfl
      | some o =>
        have := new_ne (u := .lst zs) z np
        rw [nD] at this
        cases this
    refine lc_list (K := K) (a := p) (xs := zs) (fun i Hc => ∃ cs : List Int, Hc D = some (.lst (cs.map V.int)) ∧ cs.length = i ∧ (∀ c ∈ cs, 0 ≤ c) ∧ Same H Hc ∧ Hc p = some (.lst zs))
      ⟨[], upd_same, rfl, fun c hc => (by cases hc), (new_same np).trans (new_same nD), new_ne upd_same nD⟩ (fun i Hc _ ⟨cs, _, _, _, _, hp⟩ => .inl (.inl hp)) (fun i x Hc hx ⟨cs, h1, h2, h3, h4, h5⟩ => ?_) (fun Hc ⟨cs, h1, h2, h3, h4, h5⟩ => ?_)
    · obtain ⟨c, rfl⟩ := hint x (List.mem_of_getElem? hx)
      refine ⟨rfl, _, rfl, c, rfl, cs.map V.int, h1, ?_, cs ++ [if c < 0 then -c else c], ?_, ?_, fun z hz => ?_, ?_, ?_⟩
      · have := (List.getElem?_eq_some_iff.mp hx).1
        rw [List.length_map, sizeLine_eq]
        omega
      · rw [upd_same, List.map_append]
        rfl
      · rw [List.length_append, h2]
        rfl
      · rcases List.mem_append.mp hz with e | e
        · exact h3 z e
        · rw [List.mem_singleton] at e
          subst e
          split <;> omega
      · intro y o e
        have : y ≠ D := ne_of_none e nDH
        rw [upd_ne this]
        exact h4 y o e
      · rw [upd_ne pD]
        exact h5
    · refine ⟨by show 4 ≤ sizeLine; decide, fun b nb => q _ b (h4.trans (new_same nb)) ?_ ⟨0, 1234567891, 0, D, cs, upd_same, ?_, ne_of_none h1 nb, by decide, by decide, by decide, by omega, h3⟩⟩
      · cases z : H b with
        | none => rfl
        | some o =>
          have := h4 b o z
          rw [nb] at this
          cases this
      · exact new_ne h1 nb
theorem ok_alike {f : Addr} {fd : FuncData} {k : Nat} (F : Fun K "_law_alike" "_law_alike" sAlike f fd) (mR : mg "repr" = none) : Ok0 P w K mg base (k + 1) f fd ["found", "due"] spAlike := by
  refine Ok0.mk_of F scAlike (fun vs H Q E h => ?_) (fun cdv A outer s H vs Q E hgd hr h => ?_)
  · obtain ⟨x, y, b, d, rfl, _⟩ := h
    rfl
  · obtain ⟨x, y, b, d, rfl, h1, h2, g, q⟩ := h
    refine ⟨_, pss_one (ps_ret (pe_and (pe_cmpR (op_eqS hr.units) (pv 0) (pv 1) (nomark _)) (pe_one (pe_cmpR op_eq (pe_callB (call_reprD hgd hr.units) (by rfl) mR (by decide +kernel) (pa_cons (pv 0) pa_nil)) (pe_callB (call_reprD hgd hr.units) (by rfl) mR (by decide +kernel) (pa_cons (pv 1) pa_nil)) (nomark _))))), ?_⟩
    refine ⟨_, rfl, _, rfl, b, d, h1, h2, g.deep, true, rfl, _, rfl, x, b, d, rfl, h1, g, _, rfl, _, b, d, rfl, h2, g, rfl, ?_⟩
    rw [show decide (V.str d.sh = V.str d.sh) = true from decide_eq_true rfl]
    exact q
end
end V73
/-! A list mixed. -/
namespace V73
open PySem PySem.Spec PyProof.Rows L2 TL RX
abbrev sMixed : Stmt := topS 23
theorem scMixed : FnScope ["bag", "things", "found", "thing"] ["bag", "things"] (defScope sMixed) := ⟨rfl, rfl, rfl, by decide +kernel, rfl, by decide +kernel, by decide +kernel⟩
section
variable {P : Program} {w : World} {K : PySem.W.Frag} {mg : PySem.Str → Option Value} {base : Heap}
def spMixed : Sp := fun vs H Q _ => ∃ (b t : Addr) (xs : List V), vs = [.ref b, .ref t] ∧ Bag H b ∧ H t = some (.lst xs) ∧ t ≠ b ∧ xs.length ≤ 60 ∧ ∀ H' r ys, Chb b H H' → Bag H' b → H r = none → H' r = some (.lst ys) → ys.Perm xs → r ≠ b → Q (.ref r) H'
theorem ok_mixed {f fT : Addr} {fd fdT : FuncData} {k : Nat} (F : Fun K "_law_mixed" "_law_mixed" sMixed f fd) (FT : Fun K "_law_take" "_law_take" sTake fT fdT) (bT : Binds K fdT ["bag", "many"] []) (gT : mg "_law_take" = some (.ref fT))
    (mI : mg "int" = none) (mL : mg "len" = none) : FnOk P w K mg base CX0 (k + 2) f fd ["bag", "things"] spMixed := by
  have GT : FnOk P w K mg base CX0 (k + 1) fT fdT ["bag", "many"] spTake := ok_take FT mI
  refine F.ok scMixed (fun vs H Q E h => ?_) (fun cdv A outer s H vs Q E hr h => ?_)
  · obtain ⟨b, t, xs, rfl, _⟩ := h
    rfl
  · obtain ⟨b, t, xs, rfl, hB, ht, tb, hl, q⟩ := h
    refine ⟨_, pss_cons (ps_set (i := 2) scMixed.nd rfl (.inl rfl) (pe_lst pa_nil))
      (pss_cons (ps_for PassesOwn.never rfl (pi_list (pv 1)) (pg_name (i := 3) scMixed.nd rfl (Or.inl rfl))
        (pss_one (ps_expr (pe_bm PySem.F.plainAttrs_list PySem.F.slot_list_insert PySem.F.type_list_insert mt_insert (pv 2) (pa_cons (pe_call GT hr (by rfl) gT FT.kp bT .nil pass0 (pa_cons (pv 0) (pa_cons (pe_op op_add (pe_callB call_len_seq (by rfl) mL PySem.boot_len (pa_cons (pv 2) pa_nil)) pe_int) pa_nil))) (pa_cons (pv 3) pa_nil))))))
      (pss_one (ps_ret (pv 2)))), ?_⟩
    refine ⟨by show 0 ≤ sizeLine; exact Nat.zero_le _, fun l nl => ⟨.ref t, rfl, t, rfl, ⟨xs, .inl (.inl (new_ne ht nl))⟩, ?_⟩⟩
    obtain ⟨ob, hb⟩ := hB.lst
    obtain ⟨lc, cs0, O0, hlc, lcb⟩ := hB.own
    have lb : l ≠ b := (ne_of_none hb nl).symm
    have ll : l ≠ lc := (ne_of_none hlc nl).symm
    refine for_list (K := K) (a := t) (xs := xs) (fun i σ' H' => (∃ y, σ' = [some (.ref b), some (.ref t), some (.ref l), y]) ∧ Chb b H H' ∧ Bag H' b ∧ ∃ ys, H' l = some (.lst ys) ∧ ys.Perm (xs.take i)) ⟨⟨none, rfl⟩, Chb.new nl, hB.same (new_same nl), [], upd_same, by simp⟩ (fun i σ' H' _ hP => ?_) (fun i x σ' H1 hx hP => ?_) (fun σ' H1 hP => ?_)
    · obtain ⟨_, c1, _⟩ := hP
      exact .inl (.inl (c1 _ _ tb ht))
    · obtain ⟨⟨y, rfl⟩, c1, B1, ys, hys, pm⟩ := hP
      have ly : ys.length ≤ 60 := by
        rw [pm.length_eq, List.length_take]
        omega
      refine ⟨_, rfl, .inl ⟨rfl, _, .inl (.inl hys)⟩, _, rfl, _, rfl, l, ys, rfl, .inl (.inl (.inl hys)), _, _, rfl, rfl, b, _, rfl, B1, by omega, by omega, fun H2 v c2 B2 v0 v1 => ⟨_, rfl, ?_⟩⟩
      have hys2 := c2 _ _ lb hys
      have c12 := c1.trans c2
      refine ⟨l, ys, v, x, rfl, rfl, hys2, by rw [sizeLine_eq]; omega, v0, by omega, ⟨_, rfl⟩, c12.put nl lb, (B2.set (O0.chb c12) lb ll).1, _, upd_same, ?_⟩
      have e : xs.take (i + 1) = xs.take i ++ [x] := by rw [List.take_add_one, hx]; rfl
      rw [e]
      have p1 : (ys.take v.toNat ++ [x] ++ ys.drop v.toNat).Perm (x :: ys) := by
        have h0 : (x :: (ys.take v.toNat ++ ys.drop v.toNat)).Perm (ys.take v.toNat ++ [x] ++ ys.drop v.toNat) := by
          rw [List.append_assoc]
          exact List.perm_middle.symm
        rw [List.take_append_drop] at h0
        exact h0.symm
      exact p1.trans ((List.Perm.cons x pm).trans (List.perm_append_singleton _ _).symm)
    · obtain ⟨⟨y, rfl⟩, c1, B1, ys, hys, pm⟩ := hP
      rw [List.take_of_length_le (Nat.le_refl _)] at pm
      exact ⟨_, rfl, q H1 l ys c1 B1 nl hys pm lb⟩
end
end V73
/-! Texts, purely: names, paths, numbers as shown, weights of texts. -/
namespace DK
open PySem PySem.Spec PyProof.Rows L2 TL RX
def Lt : PySem.Str := "abcdefghijklmnopqrstuvwxyz"
def Nz : PySem.Str := "abcdefghijklmnopqrstuvwxyz0123456789-"
def headIn (x : PySem.Str) : Bool := match x.cps.toList with | c :: _ => decide (c ∈ Lt.cps.toList) | [] => false
def allIn (z : PySem.Str) (l : List Nat) : Bool := l.all fun c => decide (c ∈ z.cps.toList)
def Dot : PySem.Str := "."
def Fg : PySem.Str := "0123456789"
theorem fg_mem {c : Nat} (h : c ∈ Fg.cps.toList) : 48 ≤ c ∧ c ≤ 57 := by
  have e : Fg.cps.toList = [48, 49, 50, 51, 52, 53, 54, 55, 56, 57] := by decide +kernel
  rw [e] at h
  simp only [List.mem_cons, List.not_mem_nil, or_false] at h
  omega
theorem mem_fg {c : Nat} (h : 48 ≤ c ∧ c ≤ 57) : c ∈ Fg.cps.toList := by
  have e : Fg.cps.toList = [48, 49, 50, 51, 52, 53, 54, 55, 56, 57] := by decide +kernel
  rw [e]
  simp only [List.mem_cons, List.not_mem_nil, or_false]
  omega
/-- the first sign is no nought -/
def headOk (w : PySem.Str) : Bool := match w.cps.toList with | c :: _ => !decide (c = 48) | [] => true
def val (w : PySem.Str) : Int := ((intText? w).getD 0)
def Bk : PySem.Str := " "
def Nl : PySem.Str := "\n"
def Sl : PySem.Str := "/"
theorem tl_bk : tl Bk = [32] := by decide +kernel
theorem tl_nl : tl Nl = [10] := by decide +kernel
theorem tl_sl : tl Sl = [47] := by decide +kernel
theorem str_nil {t : PySem.Str} : t = "" ↔ tl t = [] := ⟨fun h => by rw [h]; decide +kernel, fun h => ext_tl (by rw [h]; decide +kernel)⟩
/-- whether it is a NAME -/
def isNm (x : PySem.Str) : Bool := decide (1 ≤ x.length) && decide (x.length ≤ 20) && (headIn x && allIn Nz x.cps.toList)
theorem head_at {x : PySem.Str} (h : 1 ≤ x.length) : ∃ c, atI x.cps.toList 0 = some c ∧ headIn x = decide (c ∈ Lt.cps.toList) := by
  unfold headIn
  have hl : 1 ≤ x.cps.toList.length := h
  cases e : x.cps.toList with
  | nil => rw [e] at hl; simp at hl
  | cons c l => exact ⟨c, atI_nat (j := 0) rfl, rfl⟩
theorem name_sign {x : PySem.Str} (h : isNm x = true) : (∀ c ∈ tl x, c ∈ Nz.cps.toList) ∧ 1 ≤ x.length ∧ x.length ≤ 20 := by
  have h' : (decide (1 ≤ x.length) && decide (x.length ≤ 20) && (headIn x && allIn Nz x.cps.toList)) = true := h
  simp only [Bool.and_eq_true, decide_eq_true_eq] at h'
  exact ⟨fun c hc => of_decide_eq_true (List.all_eq_true.mp h'.2.2 c hc), h'.1.1, h'.1.2⟩
/-- pieces are not longer -/
theorem spl_len (S : List Nat) : ∀ (l : List Nat) (k : Nat) (acc : List Nat), ∀ p ∈ spl S k acc l, p.length ≤ acc.length + l.length := by
  intro l
  induction l with
  | nil =>
    intro k acc p hp
    rw [spl_nil, List.mem_singleton] at hp
    rw [hp]
    exact Nat.le_add_right _ _
  | cons c r ih =>
    intro k acc p hp
    rw [List.length_cons]
    cases k with
    | zero =>
      by_cases h : pre S (c :: r) = true
      · rw [spl_hit h] at hp
        rcases List.mem_cons.mp hp with e | e
        · rw [e]; omega
        · have := ih _ _ p e
          simp only [List.length_nil] at this
          omega
      · rw [spl_miss (by simpa using h)] at hp
        have := ih _ _ p hp
        rw [List.length_append, List.length_singleton] at this
        omega
    | succ k =>
      have := ih k acc p hp
      omega
theorem spl_many (S : List Nat) : ∀ (l : List Nat) (k : Nat) (acc : List Nat), (spl S k acc l).length ≤ l.length + 1 := by
  intro l
  induction l with
  | nil => intro k acc; rw [spl_nil]; exact Nat.le_refl _
  | cons c r ih =>
    intro k acc
    rw [List.length_cons]
    cases k with
    | zero =>
      by_cases h : pre S (c :: r) = true
      · rw [spl_hit h, List.length_cons]
        have := ih (S.length - 1) []
        omega
      · rw [spl_miss (by simpa using h)]
        have := ih 0 (acc ++ [c])
        omega
    | succ k =>
      have := ih k acc
      show (spl S k acc r).length ≤ _
      omega
theorem pre_one (s c : Nat) (r : List Nat) : pre [s] (c :: r) = decide (c = s) := by
  show ((c :: r).take 1 == [s]) = _
  by_cases h : c = s
  · rw [h, decide_eq_true rfl]
    simp
  · rw [decide_eq_false h]
    simp [h]
theorem spl_free (s : Nat) : ∀ (l acc : List Nat), s ∉ acc → ∀ p ∈ spl [s] 0 acc l, s ∉ p
  | [], acc, h, p, hp => by
    rw [spl_nil, List.mem_singleton] at hp
    rw [hp]; exact h
  | c :: r, acc, h, p, hp => by
    by_cases e : c = s
    · rw [spl_hit (by rw [pre_one, decide_eq_true e])] at hp
      rcases List.mem_cons.mp hp with z | z
      · rw [z]; exact h
      · exact spl_free s r [] (by simp) p z
    · rw [spl_miss (by rw [pre_one, decide_eq_false e])] at hp
      refine spl_free s r _ (fun z => ?_) p hp
      rcases List.mem_append.mp z with y | y
      · exact h y
      · rw [List.mem_singleton] at y; exact e y.symm
theorem split_map {x y : PySem.Str} {s : Nat} (ey : tl y = [s]) (hk : y.cps.all (· < 256) = true) : (Txt.split x y).map tl = spl [s] 0 [] (tl x) := by
  rw [split_spl x y (by rw [ey]; simp) (kind_ok hk), ey]
theorem split_free {x y : PySem.Str} {s : Nat} (ey : tl y = [s]) (hk : y.cps.all (· < 256) = true) : ∀ w ∈ Txt.split x y, s ∉ tl w := fun w hw => by
  have h1 : tl w ∈ (Txt.split x y).map tl := List.mem_map_of_mem hw
  rw [split_map ey hk] at h1
  exact spl_free s _ _ (by simp) _ h1
theorem mem_joinL {c : Nat} {S : List Nat} : ∀ {ps : List (List Nat)}, c ∈ joinL S ps → c ∈ S ∨ ∃ p ∈ ps, c ∈ p
  | [], h => by simp [joinL] at h
  | [p], h => .inr ⟨p, List.mem_cons_self, h⟩
  | p :: q :: r, h => by
    have h' : c ∈ p ++ (S ++ joinL S (q :: r)) := h
    rw [List.mem_append, List.mem_append] at h'
    rcases h' with h1 | h1 | h1
    · exact .inr ⟨p, List.mem_cons_self, h1⟩
    · exact .inl h1
    · rcases mem_joinL h1 with h2 | ⟨p', m, h2⟩
      · exact .inl h2
      · exact .inr ⟨p', List.mem_cons_of_mem _ m, h2⟩
theorem mem_join {c : Nat} {y : PySem.Str} {ps : List PySem.Str} (h : c ∈ tl (Txt.join y ps)) : c ∈ tl y ∨ ∃ p ∈ ps, c ∈ tl p := by
  rw [join_eq, tl_join] at h
  rcases mem_joinL h with h1 | ⟨p, m, h1⟩
  · exact .inl h1
  · obtain ⟨z, hz, rfl⟩ := List.mem_map.mp m
    exact .inr ⟨z, hz, h1⟩
theorem join_one (y q : PySem.Str) : Txt.join y [q] = q := by rw [join_eq]; rfl
theorem split_len {x y w : PySem.Str} {s : Nat} (ey : tl y = [s]) (hk : y.cps.all (· < 256) = true) (h : w ∈ Txt.split x y) : w.length ≤ x.length := by
  have h1 : tl w ∈ (Txt.split x y).map tl := List.mem_map_of_mem h
  rw [split_map ey hk] at h1
  have := spl_len _ _ _ _ _ h1
  rw [len_tl, len_tl]
  simpa using this
theorem split_many {x y : PySem.Str} {s : Nat} (ey : tl y = [s]) (hk : y.cps.all (· < 256) = true) : (Txt.split x y).length ≤ x.length + 1 := by
  have e := congrArg List.length (split_map (x := x) ey hk)
  rw [List.length_map] at e
  rw [e, len_tl]
  exact spl_many _ _ _ _
theorem split_ne {x y : PySem.Str} {s : Nat} (ey : tl y = [s]) (hk : y.cps.all (· < 256) = true) : Txt.split x y ≠ [] := fun e => by
  have z := split_map (x := x) ey hk
  rw [e] at z
  have h : ∀ (l acc : List Nat), spl [s] 0 acc l ≠ [] := by
    intro l
    induction l with
    | nil => intro acc; rw [spl_nil]; simp
    | cons c r ih =>
      intro acc
      by_cases h : pre [s] (c :: r) = true
      · rw [spl_hit h]; simp
      · rw [spl_miss (by simpa using h)]; exact ih _
  exact h _ _ z.symm
/-- parted at s it is just these -/
theorem split_iff {x y : PySem.Str} {s : Nat} {ps : List PySem.Str} (ey : tl y = [s]) (hk : y.cps.all (· < 256) = true) (hn : ps ≠ []) (hp : ∀ p ∈ ps, s ∉ tl p) : Txt.split x y = ps ↔ x = Txt.join y ps := by
  refine ⟨fun h => ?_, fun h => ?_⟩
  · rw [← h, join_eq]
    exact (StrLaws.join_split x y).symm
  · rw [h]
    exact split_join ey hk hn hp
/-- the signs of pieces are those of the whole -/
theorem split_sign {x y w : PySem.Str} (h : w ∈ Txt.split x y) : ∀ c ∈ tl w, c ∈ tl x := by
  intro c hc
  have e := StrLaws.join_split x y
  have z : tl x = joinL (tl y) ((Txt.split x y).map tl) := by
    rw [← tl_join, e]
  rw [z]
  have key : ∀ (ps : List (List Nat)) (p : List Nat), p ∈ ps → c ∈ p → c ∈ joinL (tl y) ps := by
    intro ps
    induction ps with
    | nil => intro p hp; cases hp
    | cons q r ih =>
      intro p hp hcp
      cases r with
      | nil => rw [List.mem_singleton.mp hp] at hcp; exact hcp
      | cons q2 r2 =>
        show c ∈ q ++ (tl y ++ joinL (tl y) (q2 :: r2))
        rcases List.mem_cons.mp hp with e | hp
        · rw [← e]; exact List.mem_append_left _ hcp
        · exact List.mem_append_right _ (List.mem_append_right _ (ih p hp hcp))
  exact key _ _ (List.mem_map_of_mem h) hc
/-! weights -/
def W (f : Nat → Nat) (x : PySem.Str) : Nat := ((tl x).map f).sum
section
variable {f : Nat → Nat}
theorem W_app (a b : PySem.Str) : W f (a ++ b) = W f a + W f b := by
  unfold W
  rw [tl_append, List.map_append, List.sum_append]
theorem W_joinL (S : List Nat) : ∀ ps : List (List Nat), ((joinL S ps).map f).sum ≤ (ps.map fun p => (p.map f).sum).sum + ps.length * (S.map f).sum ∧ (ps.map fun p => (p.map f).sum).sum ≤ ((joinL S ps).map f).sum
  | [] => ⟨Nat.zero_le _, Nat.zero_le _⟩
  | [p] => by
    show ((p.map f).sum) ≤ ((p.map f).sum + 0) + 1 * (S.map f).sum ∧ ((p.map f).sum + 0) ≤ (p.map f).sum
    omega
  | p :: q :: r => by
    have ih := W_joinL S (q :: r)
    have e : ((joinL S (p :: q :: r)).map f).sum = (p.map f).sum + ((S.map f).sum + ((joinL S (q :: r)).map f).sum) := by
      show ((p ++ (S ++ joinL S (q :: r))).map f).sum = _
      rw [List.map_append, List.map_append, List.sum_append, List.sum_append]
    rw [e, List.map_cons, List.sum_cons, List.length_cons, Nat.succ_mul]
    omega
theorem W_join (y : PySem.Str) (ps : List PySem.Str) : W f (Txt.join y ps) ≤ (ps.map (W f)).sum + ps.length * W f y ∧ (ps.map (W f)).sum ≤ W f (Txt.join y ps) := by
  have h := W_joinL (f := f) (tl y) (ps.map tl)
  rw [List.map_map, List.length_map] at h
  unfold W
  rw [join_eq, tl_join]
  exact h
theorem W_split (x y : PySem.Str) : ((Txt.split x y).map (W f)).sum ≤ W f x := by
  have h := (W_join (f := f) y (Txt.split x y)).2
  have e := StrLaws.join_split x y
  rw [join_eq, e] at h
  exact h
theorem W_mem {x y w : PySem.Str} (h : w ∈ Txt.split x y) : W f w ≤ W f x := by
  refine Nat.le_trans ?_ (W_split x y)
  have key : ∀ ps : List PySem.Str, w ∈ ps → W f w ≤ (ps.map (W f)).sum := by
    intro ps
    induction ps with
    | nil => intro h; cases h
    | cons p r ih =>
      intro h
      rw [List.map_cons, List.sum_cons]
      rcases List.mem_cons.mp h with e | h
      · rw [e]; omega
      · have := ih h; omega
  exact key _ h
theorem sum_sub : ∀ {l m : List Nat}, l.Sublist m → (l.map f).sum ≤ (m.map f).sum
  | _, _, .slnil => Nat.le_refl _
  | _, _, .cons a h => by rw [List.map_cons, List.sum_cons]; have := sum_sub h; omega
  | _, _, .cons_cons a h => by rw [List.map_cons, List.sum_cons, List.map_cons, List.sum_cons]; have := sum_sub h; omega
theorem sum_subS : ∀ {l m : List PySem.Str}, l.Sublist m → (l.map (W f)).sum ≤ (m.map (W f)).sum
  | _, _, .slnil => Nat.le_refl _
  | _, _, .cons a h => by rw [List.map_cons, List.sum_cons]; have := sum_subS h; omega
  | _, _, .cons_cons a h => by rw [List.map_cons, List.sum_cons, List.map_cons, List.sum_cons]; have := sum_subS h; omega
theorem cut_sub (x : PySem.Str) (lo hi : Option Int) : (tl (cutS x lo hi)).Sublist (tl x) := by
  show (((x.cps.toList.drop _).take _).toArray.toList).Sublist x.cps.toList
  exact (List.take_sublist _ _).trans (List.drop_sublist _ _)
theorem W_cut (x : PySem.Str) (lo hi : Option Int) : W f (cutS x lo hi) ≤ W f x := sum_sub (cut_sub x lo hi)
end
/-- signs, figures -/
def dg (c : Nat) : Nat := if 48 ≤ c ∧ c ≤ 57 then 1 else 0
theorem W_one (x : PySem.Str) : W (fun _ => 1) x = x.length := by
  unfold W
  rw [len_tl]
  induction tl x with
  | nil => rfl
  | cons c l ih => rw [List.map_cons, List.sum_cons, ih, List.length_cons]; omega
theorem W_digits {x : PySem.Str} (h : allIn Fg x.cps.toList = true) : W dg x = x.length := by
  unfold W
  rw [len_tl]
  have : ∀ l : List Nat, (∀ c ∈ l, 48 ≤ c ∧ c ≤ 57) → (l.map dg).sum = l.length := by
    intro l
    induction l with
    | nil => intro _; rfl
    | cons c l ih =>
      intro h
      rw [List.map_cons, List.sum_cons, ih fun d hd => h d (List.mem_cons_of_mem _ hd), List.length_cons]
      have := h c List.mem_cons_self
      unfold dg
      rw [if_pos this]
      omega
  exact this _ fun c hc => fg_mem (of_decide_eq_true (List.all_eq_true.mp h c hc))
theorem W_dg_le (x : PySem.Str) : W dg x ≤ x.length := by
  unfold W
  rw [len_tl]
  induction tl x with
  | nil => exact Nat.le_refl _
  | cons c l ih =>
    rw [List.map_cons, List.sum_cons, List.length_cons]
    have : dg c ≤ 1 := by unfold dg; split <;> omega
    omega
/-- a text of at most n signs, at most g figures -/
structure Tm (n g : Nat) (x : PySem.Str) : Prop where
  len : x.length ≤ n
  dig : W dg x ≤ g
  ok : ∀ c ∈ tl x, c < 0x110000
theorem Tm.up {n g n' g' : Nat} {x : PySem.Str} (h : Tm n g x) (a : n ≤ n') (b : g ≤ g') : Tm n' g' x := ⟨Nat.le_trans h.len a, Nat.le_trans h.dig b, h.ok⟩
theorem Tm.cut {n g : Nat} {x : PySem.Str} (h : Tm n g x) (lo hi : Option Int) : Tm n g (cutS x lo hi) :=
  ⟨Nat.le_trans (cutS_length _ _ _) h.len, Nat.le_trans (W_cut _ _ _) h.dig, fun c hc => h.ok c ((cut_sub x lo hi).mem hc)⟩
theorem Tm.app {n g m k : Nat} {x y : PySem.Str} (h : Tm n g x) (h' : Tm m k y) : Tm (n + m) (g + k) (x ++ y) := by
  refine ⟨?_, ?_, fun c hc => ?_⟩
  · rw [strLen_append]; have := h.len; have := h'.len; omega
  · rw [W_app]; have := h.dig; have := h'.dig; omega
  · rw [tl_append] at hc
    exact (List.mem_append.mp hc).elim (h.ok c) (h'.ok c)
theorem Tm.piece {n g : Nat} {x y w : PySem.Str} {s : Nat} (h : Tm n g x) (ey : tl y = [s]) (hk : y.cps.all (· < 256) = true) (m : w ∈ Txt.split x y) : Tm n g w :=
  ⟨Nat.le_trans (split_len ey hk m) h.len, Nat.le_trans (W_mem m) h.dig, fun c hc => h.ok c (split_sign m c hc)⟩
/-! numbers as they are shown -/
def num (n : Int) : PySem.Str := PySem.Str.ofString (toString n)
def allD (w : PySem.Str) : Bool := decide (1 ≤ w.length) && allIn Fg w.cps.toList
/-- no needless nought -/
def good (w : PySem.Str) : Bool := decide (V.str w = V.str "0") || headOk w
theorem allD_val {w : PySem.Str} (h : allD w = true) (h6 : w.length ≤ 640) : intText? w = some (val w) ∧ val w = (NumText.digitsVal w.cps.toList : Nat) ∧ NumText.digitsVal w.cps.toList < 10 ^ w.length := by
  unfold allD at h
  simp only [Bool.and_eq_true, decide_eq_true_eq] at h
  have hd : NumText.AllDigits w.cps.toList := fun c hc => fg_mem (of_decide_eq_true (List.all_eq_true.mp h.2 c hc))
  have hl : w.length = w.cps.toList.length := by simp [PySem.Str.length]
  have hne : w.cps.toList ≠ [] := fun e => by
    rw [hl, e] at h
    simp at h
  have e1 := intText_digits hd hne (by omega)
  have ev : val w = (NumText.digitsVal w.cps.toList : Nat) := by
    unfold val
    rw [e1]
    rfl
  refine ⟨by rw [ev]; exact e1, ev, ?_⟩
  have fold : ∀ (l : List Nat) (a : Nat), NumText.AllDigits l → l.foldl (fun acc c => acc * 10 + (c - 48)) a < (a + 1) * 10 ^ l.length := by
    intro l
    induction l with
    | nil => intro a _; simp
    | cons c l ih =>
      intro a h
      have hc := h.head
      have z := ih (a * 10 + (c - 48)) h.tail
      rw [List.foldl_cons, List.length_cons, Nat.pow_succ]
      have e1 : a * 10 + (c - 48) + 1 ≤ (a + 1) * 10 := by omega
      have e2 : (a * 10 + (c - 48) + 1) * 10 ^ l.length ≤ (a + 1) * 10 * 10 ^ l.length := Nat.mul_le_mul_right _ e1
      have e3 : (a + 1) * 10 * 10 ^ l.length = (a + 1) * (10 ^ l.length * 10) := by rw [Nat.mul_assoc, Nat.mul_comm 10]
      omega
  have z := fold w.cps.toList 0 hd
  unfold NumText.digitsVal
  rw [hl]
  omega
theorem log_le {i : Int} {k : Nat} (h : i.natAbs < 10 ^ k) (hk : k ≤ 570) : i.natAbs.log2 < 1920 := by
  by_cases h0 : i.natAbs = 0
  · rw [h0]; decide
  · refine (Nat.log2_lt h0).mpr (Nat.lt_of_lt_of_le h (Nat.le_trans (Nat.pow_le_pow_right (by decide) hk) ?_))
    decide +kernel
theorem back : ∀ (k : Nat) (l : List Nat), l.length = k → l ≠ [] → (∀ c ∈ l, 48 ≤ c ∧ c ≤ 57) → (l = [48] ∨ l.head? ≠ some 48) → numL (NumText.digitsVal l) = l := by
  intro k
  induction k with
  | zero => intro l h n; exact absurd (List.length_eq_zero_iff.mp h) n
  | succ k ih =>
    intro l h n hd hh
    have e := (List.dropLast_concat_getLast n).symm
    have hc := hd _ (List.getLast_mem n)
    generalize l.getLast n = c at e hc
    have lr : l.dropLast.length = k := by rw [List.length_dropLast]; omega
    have dr : ∀ c ∈ l.dropLast, 48 ≤ c ∧ c ≤ 57 := fun c h => hd c (List.dropLast_subset _ h)
    generalize l.dropLast = r at e lr dr
    have dv : NumText.digitsVal l = NumText.digitsVal r * 10 + (c - 48) := by
      unfold NumText.digitsVal
      rw [e, List.foldl_append]
      rfl
    by_cases hr : r = []
    · subst hr
      have : NumText.digitsVal l = c - 48 := by rw [dv]; show 0 * 10 + (c - 48) = _; omega
      rw [this, numL_lt (by omega), e]
      show [48 + (c - 48)] = [c]
      congr 1
      omega
    · have hh2 : r.head? ≠ some 48 := by
        rcases hh with z | z
        · rw [e] at z
          cases r with
          | nil => exact absurd rfl hr
          | cons a t => simp at z
        · rw [e] at z
          cases r with
          | nil => exact absurd rfl hr
          | cons a t => exact z
      have i := ih r lr hr dr (.inr hh2)
      have p : NumText.digitsVal r ≠ 0 := fun z => by
        rw [z] at i
        have : numL 0 = [48] := numL_lt (by decide)
        rw [this] at i
        rw [← i] at hh2
        exact hh2 rfl
      rw [dv, numL_step (by omega)]
      have d1 : (NumText.digitsVal r * 10 + (c - 48)) / 10 = NumText.digitsVal r := by omega
      have d2 : (NumText.digitsVal r * 10 + (c - 48)) % 10 = c - 48 := by omega
      rw [d1, d2, i, e]
      have : 48 + (c - 48) = c := by omega
      rw [this]
theorem numL_head : ∀ m : Nat, m ≠ 0 → (numL m).head? ≠ some 48 := by
  intro m
  induction m using Nat.strongRecOn with
  | _ m ih =>
    intro hm
    by_cases h : m < 10
    · rw [numL_lt h]
      simp
      omega
    · rw [numL_step (by omega)]
      have := ih (m / 10) (by omega) (by omega)
      have ne := numL_ne (m / 10)
      cases e : numL (m / 10) with
      | nil => exact absurd e ne
      | cons c r => rw [e] at this; simpa using this
theorem num_good (m : Nat) : good (num (m : Int)) = true := by
  have et : tl (num (m : Int)) = numL m := tl_num m
  unfold good
  by_cases z : m = 0
  · subst z
    rw [decide_eq_true (by decide +kernel)]
    rfl
  · have : headOk (num (m : Int)) = true := by
      unfold headOk
      have et' : (num (m : Int)).cps.toList = numL m := et
      rw [et']
      have k := numL_head m z
      cases e : numL m with
      | nil => rfl
      | cons c r =>
        rw [e] at k
        simp only [List.head?_cons, ne_eq, Option.some.injEq] at k
        simp [k]
    rw [this, Bool.or_true]
theorem num_allD (m : Nat) : allD (num (m : Int)) = true := by
  have et : tl (num (m : Int)) = numL m := tl_num m
  unfold allD
  rw [Bool.and_eq_true]
  refine ⟨decide_eq_true ?_, List.all_eq_true.mpr fun c hc => decide_eq_true (mem_fg (numL_digits m c (by rw [← et]; exact hc)))⟩
  rw [len_tl, et]
  exact List.length_pos_iff.mpr (numL_ne m)
theorem num_free (m : Nat) {s : Nat} (h : s < 48 ∨ 57 < s) : s ∉ tl (num (m : Int)) := by
  have et : tl (num (m : Int)) = numL m := tl_num m
  rw [et]
  exact numL_free h
/-- shown again it is the same, just if no nought is needless -/
theorem num_back {w : PySem.Str} (h : allD w = true) (h6 : w.length ≤ 640) : num (val w) = w ↔ good w = true := by
  obtain ⟨_, ev, _⟩ := allD_val h h6
  rw [ev]
  refine ⟨fun q => ?_, fun q => ?_⟩
  · rw [← q]
    exact num_good _
  · refine ext_tl ?_
    have et : tl (num ((NumText.digitsVal w.cps.toList : Nat) : Int)) = numL (NumText.digitsVal w.cps.toList) := tl_num _
    rw [et]
    unfold allD at h
    simp only [Bool.and_eq_true, decide_eq_true_eq] at h
    refine back _ _ rfl (fun e => ?_) (fun c hc => fg_mem (of_decide_eq_true (List.all_eq_true.mp h.2 c hc))) ?_
    · have : w.length = w.cps.toList.length := by simp [PySem.Str.length]
      rw [this, e] at h
      simp at h
    · unfold good at q
      rw [Bool.or_eq_true] at q
      rcases q with q | q
      · left
        have := of_decide_eq_true q
        injection this with this
        rw [this]
        decide +kernel
      · right
        unfold headOk at q
        cases hl : w.cps.toList with
        | nil => simp
        | cons c l =>
          rw [hl] at q
          simpa using q
/-! paths, shelves -/
def isPath (x : PySem.Str) : Bool := (Txt.split x Sl).all isNm
/-- what stands behind a beginning -/
def behind (h x : PySem.Str) : PySem.Str := ⟨((tl x).drop h.length).toArray⟩
def begins (h x : PySem.Str) : Bool := decide ((tl x).take h.length = tl h)
theorem tl_behind (h x : PySem.Str) : tl (behind h x) = (tl x).drop h.length := rfl
theorem begins_eq {h x : PySem.Str} (b : begins h x = true) : x = h ++ behind h x := by
  refine ext_tl ?_
  rw [tl_append, tl_behind]
  rw [← of_decide_eq_true b]
  exact (List.take_append_drop _ _).symm
/-- the number behind a beginning, as the program reads it -/
def numP (h x : PySem.Str) : Option Int := if begins h x = true ∧ allD (behind h x) = true ∧ (behind h x).length ≤ 19 ∧ good (behind h x) = true then some (val (behind h x)) else none
/-- as the laws read it -/
def numW (h x : PySem.Str) : Option Int := if begins h x = true ∧ allD (behind h x) = true ∧ good (behind h x) = true then some (val (behind h x)) else none
def ShP : PySem.Str := "store/c"
def isShelf (x : PySem.Str) : Bool := (numP ShP x).isSome
theorem nm_c {w : PySem.Str} (h : allD w = true) : isNm ("c" ++ w) = decide (w.length ≤ 19) := by
  unfold isNm
  have e1 : ("c" ++ w : PySem.Str).length = 1 + w.length := by rw [strLen_append]; rfl
  have e2 : tl ("c" ++ w : PySem.Str) = 99 :: tl w := by rw [tl_append]; rfl
  have e3 : headIn ("c" ++ w) = true := by
    unfold headIn
    have : ("c" ++ w : PySem.Str).cps.toList = 99 :: tl w := e2
    rw [this]
    show decide (99 ∈ Lt.cps.toList) = true
    decide +kernel
  have e4 : allIn Nz ("c" ++ w : PySem.Str).cps.toList = true := by
    have : ("c" ++ w : PySem.Str).cps.toList = 99 :: tl w := e2
    rw [this]
    unfold allD at h
    rw [Bool.and_eq_true] at h
    refine List.all_eq_true.mpr fun c hc => ?_
    rcases List.mem_cons.mp hc with e | hc
    · rw [e]; decide +kernel
    · have := fg_mem (of_decide_eq_true (List.all_eq_true.mp h.2 c hc))
      have en : Nz.cps.toList = tl Lt ++ [48, 49, 50, 51, 52, 53, 54, 55, 56, 57, 45] := by decide +kernel
      rw [en]
      refine decide_eq_true (List.mem_append_right _ ?_)
      simp only [List.mem_cons, List.not_mem_nil, or_false]
      omega
  rw [e1, e3, e4, decide_eq_true (show 1 ≤ 1 + w.length by omega)]
  by_cases h19 : w.length ≤ 19
  · rw [decide_eq_true h19, decide_eq_true (show 1 + w.length ≤ 20 by omega)]; rfl
  · rw [decide_eq_false h19, decide_eq_false (show ¬ 1 + w.length ≤ 20 by omega)]; rfl
theorem digit_free {w : PySem.Str} (h : allD w = true) {s : Nat} (hs : s < 48 ∨ 57 < s) : s ∉ tl w := fun m => by
  unfold allD at h
  rw [Bool.and_eq_true] at h
  have := fg_mem (of_decide_eq_true (List.all_eq_true.mp h.2 s m))
  omega
/-- a shelf, read by the law: a path with a number behind -/
theorem shelf_path {x : PySem.Str} (b : begins ShP x = true) (h : allD (behind ShP x) = true) : isPath x = decide ((behind ShP x).length ≤ 19) := by
  have e : Txt.split x Sl = [("store" : PySem.Str), ("c" : PySem.Str) ++ behind ShP x] := by
    refine (split_iff tl_sl (by decide +kernel) (by simp) ?_).mpr ?_
    · intro p hp
      simp only [List.mem_cons, List.not_mem_nil, or_false] at hp
      rcases hp with e | e
      · rw [e]; decide +kernel
      · rw [e, tl_append, List.mem_append]
        exact fun z => z.elim (by decide +kernel) (digit_free h (.inl (by decide)))
    · have e2 := begins_eq b
      generalize behind ShP x = w at e2
      rw [e2]
      refine ext_tl ?_
      rw [join_eq, tl_join, tl_append]
      show _ = tl "store" ++ (tl Sl ++ tl ("c" ++ w))
      rw [tl_append]
      rfl
  unfold isPath
  rw [e]
  show (isNm "store" && (isNm ("c" ++ behind ShP x) && true)) = _
  rw [nm_c h, show isNm "store" = true from by decide +kernel, Bool.true_and, Bool.and_true]
theorem shelf_law (x : PySem.Str) : ((numW ShP x).isSome && isPath x) = isShelf x := by
  unfold isShelf numW numP
  by_cases b : begins ShP x = true
  · by_cases h : allD (behind ShP x) = true
    · rw [shelf_path b h]
      by_cases g : good (behind ShP x) = true
      · rw [if_pos ⟨b, h, g⟩]
        by_cases l : (behind ShP x).length ≤ 19
        · rw [if_pos ⟨b, h, l, g⟩, decide_eq_true l]; rfl
        · rw [if_neg (fun z => l z.2.2.1), decide_eq_false l]; rfl
      · rw [if_neg (fun z => g z.2.2), if_neg (fun z => g z.2.2.2)]; rfl
    · rw [if_neg (fun z => h z.2.1), if_neg (fun z => h z.2.1)]; rfl
  · rw [if_neg (fun z => b z.1), if_neg (fun z => b z.1)]; rfl
end DK
/-! Comprehensions whose turns only add objects: the list that comes of them. -/
namespace RX
open PySem PySem.Spec PyProof.Rows L2
theorem kits (K : PySem.W.Frag) : (∀ T ∈ ["NoneType", "bool", "int", "str", "list", "dict", "tuple"], PySem.W.kitOne K (.type T) (.type "int") = some (decide (T = "int" ∨ T = "bool")) ∧ PySem.W.kitOne K (.type T) (.type "bool") = some (decide (T = "bool")) ∧
    PySem.W.kitOne K (.type T) (.type "str") = some (decide (T = "str")) ∧ PySem.W.kitOne K (.type T) (.type "tuple") = some (decide (T = "tuple"))) := by
  intro T hT
  simp only [List.mem_cons, List.not_mem_nil, or_false] at hT
  rcases hT with rfl | rfl | rfl | rfl | rfl | rfl | rfl <;> exact ⟨kit_ty (by decide +kernel), kit_ty (by decide +kernel), kit_ty (by decide +kernel), kit_ty (by decide +kernel)⟩
abbrev mid (t : TE) : TE := fun σ H Q => ∃ M : V → Hp → Prop, t σ H M ∧ ∀ x H', M x H' → Q x H'
abbrev midT (t : TT) : TT := fun σ H Q => ∃ M : Bool → Hp → Prop, t σ H M ∧ ∀ c H', M c H' → Q c H'
theorem pd_imp {α β : Type} {F G : α → β → Prop} (h : ∀ x y, F x y → G x y) : ∀ {xs : List α} {ys : List β}, Paired F xs ys → Paired G xs ys
  | _, _, .nil => .nil
  | _, _, .cons a b => .cons (h _ _ a) (pd_imp h b)
theorem pd_snoc {α β : Type} {F : α → β → Prop} {x : α} {y : β} (h : F x y) : ∀ {xs : List α} {ys : List β}, Paired F xs ys → Paired F (xs ++ [x]) (ys ++ [y])
  | _, _, .nil => .cons h .nil
  | _, _, .cons a b => .cons a (pd_snoc h b)
theorem pd_len {α β : Type} {F : α → β → Prop} : ∀ {xs : List α} {ys : List β}, Paired F xs ys → xs.length = ys.length
  | _, _, .nil => rfl
  | _, _, .cons a b => by rw [List.length_cons, List.length_cons, pd_len b]
theorem same_upd {H0 H : Hp} {D : Addr} {o : HO} (nD : H0 D = none) (s : Same H0 H) : Same H0 (upd H D o) := fun a u e => by
  rw [upd_ne (ne_of_none e nD)]
  exact s a u e
theorem kp_upd {H : Hp} {D : Addr} {zs : List V} {o : HO} (h : H D = some (.lst zs)) : Kp D H (upd H D o) := fun a u e n1 n2 => by
  by_cases z : a = D
  · subst z
    rw [h] at e
    cases e
    exact absurd rfl (n1 _ rfl)
  · rw [upd_ne z]; exact e
theorem kp_same {b : Addr} {H H' : Hp} (s : Same H H') : Kp b H H' := fun a o e _ _ => s a o e
section
variable {J : It} {n : Nat} {G : Hp → Prop} {xs : List V} {t : TE} {t2 : TT} {i : Nat} {vs : List Nat} {σ : L2.St} {H0 : Hp} {D : Addr} {Qd : Hp → Prop}
/-- [t for x in xs] -/
theorem lc_map (w : Walk J n G (YAt xs)) (Gp : V → V → Hp → Prop) (nD : H0 D = none) (hn : xs.length = n) (few : n ≤ 16000000) (hG : ∀ H, Same H0 H → G H) (st : ∀ x y H H', Kp D H H' → Gp x y H → Gp x y H')
    (hw : ∀ x, wipe ((wipe σ vs).set i (some x)) vs = wipe σ vs)
    (hs : ∀ (j : Nat) x Hc, xs[j]? = some x → Same H0 Hc → (∃ zs, Hc D = some (.lst zs)) → t ((wipe σ vs).set i (some x)) Hc (fun y H4 => Same Hc H4 ∧ Gp x y H4))
    (hd : ∀ H' ys, Same H0 H' → H' D = some (.lst ys) → Paired (fun x y => Gp x y H') xs ys → Qd H') :
    ∃ W : Nat → Nat → Hp → Prop, (∃ m, W 0 m (upd H0 D (.lst []))) ∧ ∀ j m H, W j m H →
      (J.stop j H ∧ Qd H) ∨ (J.go j H ∧ ∃ Nx : Hp → Prop, (∀ H', Nx H' → ∃ m', m' < m ∧ W (j + 1) m' H') ∧ ∀ x H', J.yld j H x H' → gName i x (wipe σ vs) H' fun σ2 H2 => wipe σ2 vs = wipe σ vs ∧ tYes σ2 H2 fun b H3 =>
        if b = true then mid t σ2 H3 fun y H4 => ∃ acc, H4 D = some (.lst acc) ∧ acc.length < sizeLine ∧ Nx (upd H4 D (.lst (acc ++ [y]))) else Nx H3) := by
  refine lc_it w (fun j Hc => ∃ ys, Hc D = some (.lst ys) ∧ Same H0 Hc ∧ Paired (fun x y => Gp x y Hc) (xs.take j) ys) ⟨[], upd_same, new_same nD, by rw [List.take_zero]; exact .nil⟩ (fun j H _ h => let ⟨_, _, s, _⟩ := h; hG H s) ?_ ?_
  · rintro j x H H' hj ⟨ys, h1, s, p⟩ ⟨rfl, hx⟩
    refine ⟨hw x, _, hs j x H' hx s ⟨_, h1⟩, fun y H4 h4 => ?_⟩
    obtain ⟨s4, g⟩ := h4
    have l := pd_len p
    rw [List.length_take] at l
    refine ⟨ys, s4 _ _ h1, by rw [sizeLine_eq]; omega, ys ++ [y], upd_same, same_upd nD (fun a o e => s4 _ _ (s a o e)), ?_⟩
    have k : Kp D H4 (upd H4 D (.lst (ys ++ [y]))) := kp_upd (s4 _ _ h1)
    rw [List.take_add_one, hx]
    exact pd_snoc (F := fun x z => Gp x z (upd H4 D (.lst (ys ++ [y])))) (st _ _ _ _ k g) (pd_imp (fun x y g => st _ _ _ _ k (st _ _ _ _ (kp_same s4) g)) p)
  · rintro H ⟨ys, h1, s, p⟩
    rw [List.take_of_length_le (by omega)] at p
    exact hd H ys s h1 p
/-- [t for x in xs if t2] -/
theorem lc_filt (w : Walk J n G (YAt xs)) (p : V → Bool) (Gp : V → V → Hp → Prop) (nD : H0 D = none) (hn : xs.length = n) (few : n ≤ 16000000) (hG : ∀ H, Same H0 H → G H) (st : ∀ x y H H', Kp D H H' → Gp x y H → Gp x y H')
    (hw : ∀ x, wipe ((wipe σ vs).set i (some x)) vs = wipe σ vs)
    (hs : ∀ (j : Nat) x Hc, xs[j]? = some x → Same H0 Hc → (∃ zs, Hc D = some (.lst zs)) → t2 ((wipe σ vs).set i (some x)) Hc (fun c H3 => Same Hc H3 ∧ c = p x) ∧
      (p x = true → ∀ H3, Same Hc H3 → t ((wipe σ vs).set i (some x)) H3 (fun y H4 => Same H3 H4 ∧ Gp x y H4)))
    (hd : ∀ H' ys, Same H0 H' → H' D = some (.lst ys) → Paired (fun x y => Gp x y H') (xs.filter p) ys → Qd H') :
    ∃ W : Nat → Nat → Hp → Prop, (∃ m, W 0 m (upd H0 D (.lst []))) ∧ ∀ j m H, W j m H →
      (J.stop j H ∧ Qd H) ∨ (J.go j H ∧ ∃ Nx : Hp → Prop, (∀ H', Nx H' → ∃ m', m' < m ∧ W (j + 1) m' H') ∧ ∀ x H', J.yld j H x H' → gName i x (wipe σ vs) H' fun σ2 H2 => wipe σ2 vs = wipe σ vs ∧ midT t2 σ2 H2 fun b H3 =>
        if b = true then mid t σ2 H3 fun y H4 => ∃ acc, H4 D = some (.lst acc) ∧ acc.length < sizeLine ∧ Nx (upd H4 D (.lst (acc ++ [y]))) else Nx H3) := by
  refine lc_it w (fun j Hc => ∃ ys, Hc D = some (.lst ys) ∧ Same H0 Hc ∧ Paired (fun x y => Gp x y Hc) ((xs.take j).filter p) ys) ⟨[], upd_same, new_same nD, by rw [List.take_zero]; exact .nil⟩ (fun j H _ h => let ⟨_, _, s, _⟩ := h; hG H s) ?_ ?_
  · rintro j x H H' hj ⟨ys, h1, s, q⟩ ⟨rfl, hx⟩
    obtain ⟨k1, k2⟩ := hs j x H' hx s ⟨_, h1⟩
    refine ⟨hw x, _, k1, fun c H3 h3 => ?_⟩
    obtain ⟨s3, rfl⟩ := h3
    have e1 : (xs.take (j + 1)).filter p = (xs.take j).filter p ++ if p x = true then [x] else [] := by
      rw [List.take_add_one, hx, List.filter_append]
      show _ ++ List.filter p [x] = _
      rw [List.filter_cons, List.filter_nil]
    have s03 : Same H0 H3 := fun a o e => s3 _ _ (s a o e)
    have q3 := pd_imp (fun x y g => st _ _ _ _ (kp_same s3) g) q
    by_cases e : p x = true
    · rw [if_pos e] at e1
      rw [if_pos e]
      refine ⟨_, k2 e H3 s3, fun y H4 h4 => ?_⟩
      obtain ⟨s4, g⟩ := h4
      have l := pd_len q
      have l2 := List.length_filter_le p (xs.take j)
      rw [List.length_take] at l2
      refine ⟨ys, s4 _ _ (s3 _ _ h1), by rw [sizeLine_eq]; omega, ys ++ [y], upd_same, same_upd nD (fun a o e => s4 _ _ (s03 a o e)), ?_⟩
      have k : Kp D H4 (upd H4 D (.lst (ys ++ [y]))) := kp_upd (s4 _ _ (s3 _ _ h1))
      rw [e1]
      exact pd_snoc (F := fun x z => Gp x z (upd H4 D (.lst (ys ++ [y])))) (st _ _ _ _ k g) (pd_imp (fun x y g => st _ _ _ _ k (st _ _ _ _ (kp_same s4) g)) q3)
    · rw [if_neg e, List.append_nil] at e1
      rw [if_neg e]
      exact ⟨ys, s3 _ _ h1, s03, by rw [e1]; exact q3⟩
  · rintro H ⟨ys, h1, s, q⟩
    rw [List.take_of_length_le (by omega)] at q
    exact hd H ys s h1 q
end
end RX
/-! Lists of texts held against one another; signs of a text; beginnings of texts. -/
namespace RX
open PySem PySem.Spec PyProof.Rows L2 TL
section
variable {X : Cx}
/-- a list != [] -/
theorem op_neL0 (hu : X.A.units < cLine) : OpR X (compareOp .NotEq) (fun x y H Q => ∃ (a b : Addr) (xs : List V), x = .ref a ∧ y = .ref b ∧ H a = some (.lst xs) ∧ H b = some (.lst []) ∧ Q (.bl (!xs.isEmpty)) H) := by
  intro pins s σ H x y v u Q I rx ry h
  obtain ⟨a, b, xs, rfl, rfl, ha, hb, q⟩ := h
  cases (show v = Value.ref a from rx)
  cases (show u = Value.ref b from ry)
  obtain ⟨i1, r1, p1, _⟩ := I.list (.inl (.inl ha))
  obtain ⟨i2, r2, p2, _⟩ := I.list (.inl (.inl hb))
  cases r2
  cases r1 with
  | nil => exact SeqAt.RcNeAt.lists (e := fun _ => true) p1.isList p2.isList rfl hu (fun j _ h2 => absurd h2 (Nat.not_lt_zero j)) _ _ _ _ ⟨.bl false, H, I, rfl, q⟩
  | cons c d => exact SeqAt.RcNeAt.lists_lengths p1.isList p2.isList (by simp) hu _ _ _ _ ⟨.bl true, H, I, rfl, q⟩
/-- a tuple != () -/
theorem op_neT0 (hu : X.A.units < cLine) : OpR X (compareOp .NotEq) (fun x y H Q => ∃ (a b : Addr) (xs : List V), x = .ref a ∧ y = .ref b ∧ SqT X.K H a xs ∧ SqT X.K H b [] ∧ Q (.bl (!xs.isEmpty)) H) := by
  intro pins s σ H x y v u Q I rx ry h
  obtain ⟨a, b, xs, rfl, rfl, ha, hb, q⟩ := h
  cases (show v = Value.ref a from rx)
  cases (show u = Value.ref b from ry)
  obtain ⟨i1, r1, p1, _⟩ := I.tuple ha
  obtain ⟨i2, r2, p2, _⟩ := I.tuple hb
  cases r2
  refine SeqAt.RcNeAt.tuples (e := fun _ => true) p1 p2 hu (fun j _ h2 => absurd h2 (Nat.not_lt_zero j)) _ _ _ _ ?_
  refine ⟨.bl (!xs.isEmpty), H, I, ?_, q⟩
  cases r1 with
  | nil => rfl
  | cons c d => simp [L2.RelV]
/-- a list == [] -/
theorem op_eqL0 (hu : X.A.units < cLine) : OpR X (compareOp .Eq) (fun x y H Q => ∃ (a b : Addr) (xs : List V), x = .ref a ∧ y = .ref b ∧ H a = some (.lst xs) ∧ H b = some (.lst []) ∧ Q (.bl xs.isEmpty) H) := by
  intro pins s σ H x y v u Q I rx ry h
  obtain ⟨a, b, xs, rfl, rfl, ha, hb, q⟩ := h
  cases (show v = Value.ref a from rx)
  cases (show u = Value.ref b from ry)
  obtain ⟨i1, r1, p1, _⟩ := I.list (.inl (.inl ha))
  obtain ⟨i2, r2, p2, _⟩ := I.list (.inl (.inl hb))
  cases r2
  cases r1 with
  | nil => exact SeqAt.eq_listAt (e := fun _ => true) p1.isList p2.isList rfl hu (fun j _ h2 => absurd h2 (Nat.not_lt_zero j)) ⟨.bl true, H, I, rfl, q⟩
  | cons c d => exact SeqAt.eq_list_lengthsAt p1.isList p2.isList (by simp) hu ⟨.bl false, H, I, rfl, q⟩
/-- a text some times over -/
theorem op_mulS : OpR X (binaryOp .Mult) (fun x y H Q => ∃ (z : PySem.Str) (n : Int), x = .str z ∧ y = .int n ∧ MulOk z n ∧ Q (.str (Txt.mul z n)) H) := by
  intro pins s σ H x y v u Q I rx ry h
  obtain ⟨z, n, rfl, rfl, hm, q⟩ := h
  obtain ⟨t, rfl⟩ := rx
  obtain ⟨t', rfl⟩ := ry
  exact SB.mul hm fun tk k => ⟨.str _, H, I.tok _, ⟨_, rfl⟩, q⟩
end
/-! readings that do not name the place where they are used -/
def rJoin (K : PySem.W.Frag) : V → List V → Hp → VK → Prop := fun x xs H Q => ∃ a p, ∃ ys : List PySem.Str, x = .str a ∧ xs = [.ref p] ∧ (SqL K H p (ys.map V.str) ∨ SqT K H p (ys.map V.str)) ∧ (ys.map (·.length)).sum + ys.length * a.length ≤ 16777216 ∧ Q (.str (Txt.join a ys)) H
theorem mt_joinK {X : Cx} : MtR X "str.join" (rJoin X.K) := mt_join
def rTupOf (K : PySem.W.Frag) : List V → Hp → VK → Prop := fun xs H Q => ∃ p ys, xs = [.ref p] ∧ ((SqL K H p ys ∧ ∀ l, H l = none → Q (.ref l) (upd H l (.tup ys))) ∨ (SqT K H p ys ∧ Q (.ref p) H))
theorem call_tupK {X : Cx} : CallR X (.type "tuple") (rTupOf X.K) := call_tuple_of
def rLen (K : PySem.W.Frag) : List V → Hp → VK → Prop := fun xs H Q => ∃ p ys, xs = [.ref p] ∧ (SqL K H p ys ∨ SqT K H p ys) ∧ Q (.int ys.length) H
theorem call_lenK {X : Cx} : CallR X (.builtin "len") (rLen X.K) := call_len_seq
section
variable {X : Cx} {o e : Expr} {to te : TE} {apos pos : Pos} {K : PySem.W.Frag}
theorem pe_joinK (ho : PE X o to) (he : PE X e te) (hK : X.K = K := by rfl) (hs : starEach [e] X.env = [(false, eval e X.env)] := by rfl) (hbase : attributeBase o "join" X.env (eval o X.env) = eval o X.env := by rfl) (hline : (apos.endLine == pos.line) = true := by rfl) :
    PE X (.Call (.Attribute o "join" apos) [e] [] pos) (tM1 (rJoin K) to te) := by
  subst hK
  exact pe_join ho he hs hbase hline
end
/-- signs that texts may have -/
def OkS (x : PySem.Str) : Prop := ∀ c ∈ tl x, c < 0x110000
theorem OkS.lay {x : PySem.Str} (h : OkS x) : (PyData.str x).canLay0 = true := by
  show x.cps.all (· < 0x110000) = true
  rw [← Array.all_toList, List.all_eq_true]
  exact fun c hc => decide_eq_true (h c hc)
theorem OkS.sg {x : PySem.Str} (h : OkS x) (l : x.length ≤ 1000000) : Sg x := ⟨l, fun k hk => Nat.lt_trans (h k hk) (by decide)⟩
theorem lay_txs : ∀ fs : List PySem.Str, (∀ x ∈ fs, OkS x) → PyData.canLayAll0 (fs.map PyData.str) = true ∧ PyData.depthAll (fs.map PyData.str) = 0
  | [], _ => ⟨rfl, rfl⟩
  | x :: fs, h => by
    obtain ⟨h1, h2⟩ := lay_txs fs fun y hy => h y (List.mem_cons_of_mem _ hy)
    refine ⟨?_, ?_⟩
    · show ((PyData.str x).canLay0 && PyData.canLayAll0 (fs.map PyData.str)) = true
      rw [(h x List.mem_cons_self).lay, h1]; rfl
    · show max 0 (PyData.depthAll (fs.map PyData.str)) = 0
      rw [h2]; rfl
theorem shaped_txs {fs : List PySem.Str} (h : ∀ x ∈ fs, OkS x) : SeqAt.shaped (.list (fs.map PyData.str)) = true := by
  obtain ⟨h1, h2⟩ := lay_txs fs h
  unfold SeqAt.shaped
  have c2 : (PyData.list (fs.map PyData.str)).depth = 1 := by
    show PyData.depthAll (fs.map PyData.str) + 1 = 1
    rw [h2]
  have c1 : (PyData.list (fs.map PyData.str)).canLay0 = true := h1
  rw [c1, c2]
  rfl
theorem eqv_strs : ∀ xs ys : List PySem.Str, PyData.eqvAll (xs.map PyData.str) (ys.map PyData.str) = true ↔ xs = ys
  | [], [] => ⟨fun _ => rfl, fun _ => rfl⟩
  | [], _ :: _ => ⟨fun h => (by cases h), fun h => (by cases h)⟩
  | _ :: _, [] => ⟨fun h => (by cases h), fun h => (by cases h)⟩
  | x :: xs, y :: ys => by
    have e : PyData.eqvAll ((x :: xs).map PyData.str) ((y :: ys).map PyData.str) = ((x == y) && PyData.eqvAll (xs.map PyData.str) (ys.map PyData.str)) := rfl
    rw [e, Bool.and_eq_true, eqv_strs xs ys, beq_iff_eq, List.cons.injEq]
theorem dp_strs {K : PySem.W.Frag} : ∀ fs : List PySem.Str, DpAll K H (fs.map V.str) (fs.map PyData.str)
  | [] => .nil
  | x :: fs => .cons (.str x) (dp_strs fs)
theorem eqv_dec (xs ys : List PySem.Str) : PyData.eqvAll (xs.map PyData.str) (ys.map PyData.str) = decide (xs = ys) := by
  by_cases h : xs = ys
  · rw [decide_eq_true h]; exact (eqv_strs xs ys).mpr h
  · rw [decide_eq_false h]
    cases e : PyData.eqvAll (xs.map PyData.str) (ys.map PyData.str) with
    | false => rfl
    | true => exact absurd ((eqv_strs xs ys).mp e) h
section
variable {X : Cx}
theorem op_eqTs (hu : X.A.units + 64 < cLine) : OpR X (compareOp .Eq) (fun x y H Q => ∃ (a b : Addr) (xs ys : List PySem.Str), x = .ref a ∧ y = .ref b ∧ H a = some (.lst (xs.map V.str)) ∧ H b = some (.lst (ys.map V.str)) ∧ (∀ x ∈ xs, OkS x) ∧ (∀ y ∈ ys, OkS y) ∧ Q (.bl (decide (xs = ys))) H) := by
  intro pins s σ H x y v u Q I rx ry h
  obtain ⟨a, b, xs, ys, rfl, rfl, ha, hb, ox, oy, q⟩ := h
  refine L2.op_eqD hu pins s σ H _ _ v u Q I rx ry ⟨.list (xs.map PyData.str), .list (ys.map PyData.str), .lst (.inl (.inl ha)) (dp_strs xs), .lst (.inl (.inl hb)) (dp_strs ys), shaped_txs ox, shaped_txs oy, ?_⟩
  rw [← eqv_dec] at q
  exact q
theorem op_neTs (hu : X.A.units + 64 < cLine) : OpR X (compareOp .NotEq) (fun x y H Q => ∃ (a b : Addr) (xs ys : List PySem.Str), x = .ref a ∧ y = .ref b ∧ H a = some (.lst (xs.map V.str)) ∧ H b = some (.lst (ys.map V.str)) ∧ (∀ x ∈ xs, OkS x) ∧ (∀ y ∈ ys, OkS y) ∧ Q (.bl (!decide (xs = ys))) H) := by
  intro pins s σ H x y v u Q I rx ry h
  obtain ⟨a, b, xs, ys, rfl, rfl, ha, hb, ox, oy, q⟩ := h
  refine L2.op_neD hu pins s σ H _ _ v u Q I rx ry ⟨.list (xs.map PyData.str), .list (ys.map PyData.str), .lst (.inl (.inl ha)) (dp_strs xs), .lst (.inl (.inl hb)) (dp_strs ys), shaped_txs ox, shaped_txs oy, ?_⟩
  rw [← eqv_dec] at q
  exact q
end
/-- the signs of a text, as values -/
def sgs (x : PySem.Str) : List V := (tl x).map fun c => V.str ⟨#[c]⟩
theorem walk_sgs {z : PySem.Str} : Walk (Its z) z.length (fun _ => True) (YAt (sgs z)) :=
  walk_str.mono (fun _ h => h) fun i H x H' hi _ y => by
    obtain ⟨rfl, c, hc, rfl⟩ := y
    refine ⟨rfl, ?_⟩
    unfold sgs
    rw [List.getElem?_map]
    have : (tl z)[i]? = some c := by show z.cps.toList[i]? = some c; rw [Array.getElem?_toList]; exact hc
    rw [this]
    rfl
theorem sgs_len (z : PySem.Str) : (sgs z).length = z.length := by unfold sgs; rw [List.length_map, len_tl]
theorem pd_eq {xs ys : List V} (h : Paired (fun x y => y = x) xs ys) : ys = xs := by
  induction xs generalizing ys with
  | nil => cases h; rfl
  | cons x xs ih =>
    cases h with
    | cons a b => rw [a, ih b]
/-- what a map of texts has become -/
theorem pd_strs {f : PySem.Str → V} : ∀ {ps : List PySem.Str} {ys : List V}, Paired (fun x y => ∃ w, x = V.str w ∧ y = f w) (ps.map V.str) ys → ys = ps.map f
  | [], _, h => by cases h; rfl
  | p :: ps, _, h => by
    cases h with
    | cons a b =>
      obtain ⟨w, e, rfl⟩ := a
      cases e
      rw [List.map_cons, pd_strs b]
theorem pd_sgs {f : Nat → V} : ∀ {l : List Nat} {ys : List V}, Paired (fun x y => ∃ c, x = V.str ⟨#[c]⟩ ∧ y = f c) (l.map fun c => V.str ⟨#[c]⟩) ys → ys = l.map f
  | [], _, h => by cases h; rfl
  | p :: ps, _, h => by
    cases h with
    | cons a b =>
      obtain ⟨w, e, rfl⟩ := a
      injection e with e
      injection e with e
      injection e with e
      injection e with e
      subst e
      rw [List.map_cons, pd_sgs b]
end RX
namespace DK
open PySem PySem.Spec PyProof.Rows L2 TL RX
/-- a sign that is not among some -/
def notIn (z : PySem.Str) : V → Bool | .str y => !allIn z y.cps.toList | _ => false
theorem notIn_one (z : PySem.Str) (c : Nat) : notIn z (V.str ⟨#[c]⟩) = !decide (c ∈ z.cps.toList) := by
  show (!([c].all fun c => decide (c ∈ z.cps.toList))) = _
  rw [List.all_cons, List.all_nil, Bool.and_true]
/-- a text that is no NAME -/
def noNm : V → Bool | .str y => !isNm y | _ => false
theorem no_nms (ps : List PySem.Str) : ((ps.map V.str).filter noNm).isEmpty = ps.all isNm := by
  induction ps with
  | nil => rfl
  | cons p ps ih =>
    rw [List.map_cons, List.filter_cons, List.all_cons]
    have e : noNm (V.str p) = !isNm p := rfl
    rw [e]
    cases h : isNm p with
    | true => exact ih
    | false => rfl
theorem not_none (z x : PySem.Str) : ((sgs x).filter (notIn z)).isEmpty = allIn z x.cps.toList := by
  have key : ∀ l : List Nat, ((l.map fun c => V.str ⟨#[c]⟩).filter (notIn z)).isEmpty = allIn z l := by
    intro l
    induction l with
    | nil => rfl
    | cons c l ih =>
      rw [List.map_cons, List.filter_cons]
      have e : notIn z (V.str ⟨#[c]⟩) = !decide (c ∈ z.cps.toList) := by
        show (!([c].all fun c => decide (c ∈ z.cps.toList))) = _
        rw [List.all_cons, List.all_nil, Bool.and_true]
      have e2 : allIn z (c :: l) = (decide (c ∈ z.cps.toList) && allIn z l) := by unfold allIn; rw [List.all_cons]
      rw [e, e2]
      by_cases h : c ∈ z.cps.toList
      · rw [decide_eq_true h, Bool.true_and]; exact ih
      · rw [decide_eq_false h]; rfl
  exact key _
theorem head_ok {w : PySem.Str} {c : Nat} (h : atI w.cps.toList 0 = some c) : headOk w = !decide (c = 48) := by
  unfold headOk
  cases e : w.cps.toList with
  | nil => rw [e] at h; cases h
  | cons d l =>
    rw [e] at h
    have : atI (d :: l) 0 = some d := atI_nat (j := 0) rfl
    rw [this] at h
    cases h
    rfl
theorem one_sign {c d : Nat} (h : V.str ⟨#[c]⟩ = V.str ⟨#[d]⟩) : c = d := by
  injection h with h
  injection h with h
  injection h with h
  injection h
theorem starts_eq (x h : PySem.Str) : Txt.startswith x h = begins h x := by
  unfold Txt.startswith begins
  rw [StrLaws.subAt_eq, List.drop_zero]
  by_cases e : (tl x).take h.length = tl h
  · have l : h.length ≤ x.length := by
      have := congrArg List.length e
      rw [List.length_take, ← len_tl, ← len_tl] at this
      omega
    rw [decide_eq_true e, decide_eq_true (show 0 + h.length ≤ x.length by omega), Bool.true_and]
    exact beq_iff_eq.mpr e
  · rw [decide_eq_false e]
    have : (List.take h.length x.cps.toList == h.cps.toList) = false := by
      rw [Bool.eq_false_iff]
      exact fun z => e (beq_iff_eq.mp z)
    rw [this, Bool.and_false]
theorem remp_eq (x h : PySem.Str) : Txt.removeprefix x h = if begins h x = true then behind h x else x := by
  unfold Txt.removeprefix
  have e0 : Builtin.Str.subAt x h 0 = begins h x := by
    rw [StrLaws.subAt_eq, List.drop_zero]
    unfold begins
    by_cases e : (tl x).take h.length = tl h
    · rw [decide_eq_true e]; exact beq_iff_eq.mpr e
    · rw [decide_eq_false e, Bool.eq_false_iff]; exact fun z => e (beq_iff_eq.mp z)
  rw [e0]
  by_cases b : begins h x = true
  · rw [if_pos b, if_pos b]
    show (if x.length - h.length == x.length then x else Builtin.Str.strSub x h.length x.length) = _
    have e2 := begins_eq b
    have el : x.length = h.length + (behind h x).length := by rw [← strLen_append, ← e2]
    by_cases z : h.length = 0
    · have : h = "" := str_nil.mpr (List.length_eq_zero_iff.mp (by rw [← len_tl]; exact z))
      rw [if_pos (by rw [z]; simp)]
      refine ext_tl ?_
      rw [tl_behind, z, List.drop_zero]
    · rw [if_neg (by simp; omega)]
      refine ext_tl ?_
      rw [tl_strSub_end, tl_behind]
  · rw [if_neg b, if_neg b]
    rfl
theorem cut_behind (x h : PySem.Str) : cutS x (some (h.length : Nat)) none = behind h x := by
  refine ext_tl ?_
  show ((x.cps.toList.drop (HT.sIx x.length 0 (some ((h.length : Nat) : Int)))).take (HT.sIx x.length x.length none - HT.sIx x.length 0 (some ((h.length : Nat) : Int)))) = _
  rw [HT.sIx_nat, HT.sIx_none, tl_behind]
  have l : x.cps.toList.length = x.length := (len_tl x).symm
  by_cases e : h.length ≤ x.length
  · rw [Nat.min_eq_left e, List.take_of_length_le (by rw [List.length_drop, l]; exact Nat.le_refl _)]
  · rw [Nat.min_eq_right (by omega), Nat.sub_self, List.take_zero, List.drop_eq_nil_of_le (by rw [← len_tl]; omega)]
theorem tl_take (x : PySem.Str) (n : Nat) : tl (cutS x none (some (n : Nat))) = (tl x).take n := by
  show ((x.cps.toList.drop 0).take (HT.sIx x.length x.length (some ((n : Nat) : Int)) - 0)) = _
  rw [HT.sIx_nat, List.drop_zero, Nat.sub_zero]
  have l : x.cps.toList.length = x.length := (len_tl x).symm
  exact List.take_eq_take_iff.mpr (by rw [l]; show min (min n x.length) x.length = min n (tl x).length; rw [← len_tl]; omega)
theorem cut_begins (x h : PySem.Str) : decide (V.str (cutS x none (some (h.length : Nat))) = V.str h) = begins h x := by
  unfold begins
  by_cases e : (tl x).take h.length = tl h
  · rw [decide_eq_true e, decide_eq_true]
    rw [ext_tl ((tl_take x h.length).trans e)]
  · rw [decide_eq_false e, decide_eq_false]
    intro z
    injection z with z
    exact e (by rw [← tl_take, z])
end DK
/-! Names, paths, shelves, as the program knows them. -/
namespace V73
open PySem PySem.Spec PyProof.Rows L2 TL RX DK
abbrev sIsName : Stmt := topS 5
abbrev sIsPath : Stmt := topS 8
abbrev sNumB : Stmt := topS 12
abbrev sIsShelf : Stmt := topS 13
theorem scIsName : FnScope ["thing", "sign"] ["thing"] (defScope sIsName) := ⟨rfl, rfl, rfl, by decide +kernel, rfl, by decide +kernel, by decide +kernel⟩
theorem scIsPath : FnScope ["thing", "word"] ["thing"] (defScope sIsPath) := ⟨rfl, rfl, rfl, by decide +kernel, rfl, by decide +kernel, by decide +kernel⟩
theorem scNumB : FnScope ["head", "path", "figures", "sign"] ["head", "path"] (defScope sNumB) := ⟨rfl, rfl, rfl, by decide +kernel, rfl, by decide +kernel, by decide +kernel⟩
theorem scIsShelf : FnScope ["path"] ["path"] (defScope sIsShelf) := ⟨rfl, rfl, rfl, by decide +kernel, rfl, by decide +kernel, by decide +kernel⟩
/-- what the top has of names and shelves -/
structure Cn (K : PySem.W.Frag) (mg : PySem.Str → Option Value) (fN fP fB fS : Addr) (dN dP dB dS : FuncData) (t1 t2 t3 t4 t5 t6 : Tok) : Prop where
  FN : Fun K "is_name" "is_name" sIsName fN dN
  bN : Binds K dN ["thing"] []
  gN : mg "is_name" = some (.ref fN)
  FP : Fun K "is_path" "is_path" sIsPath fP dP
  bP : Binds K dP ["thing"] []
  gP : mg "is_path" = some (.ref fP)
  FB : Fun K "number_behind" "number_behind" sNumB fB dB
  bB : Binds K dB ["head", "path"] []
  gB : mg "number_behind" = some (.ref fB)
  FS : Fun K "is_shelf" "is_shelf" sIsShelf fS dS
  bS : Binds K dS ["path"] []
  gS : mg "is_shelf" = some (.ref fS)
  g20 : mg "LONGEST_NAME" = some (.int 20 t1)
  gLt : mg "LETTERS" = some (.str Lt t2)
  gNz : mg "NAME_SIGNS" = some (.str Nz t3)
  g19 : mg "MOST_FIGURES" = some (.int 19 t4)
  gFg : mg "FIGURES" = some (.str Fg t5)
  gSh : mg "SHELF" = some (.str ShP t6)
  mS : mg "isinstance" = none
  mT : mg "str" = none
  mL : mg "len" = none
  mA : mg "all" = none
  mI : mg "int" = none
/-- a number, or None -/
def ov : Option Int → V | none => .non | some i => .int i
section
variable {P : Program} {w : World} {K : PySem.W.Frag} {mg : PySem.Str → Option Value} {base : Heap}
def spNm : Sp := fun vs H Q _ => ∃ x : PySem.Str, vs = [.str x] ∧ x.length ≤ 1000000 ∧ ∀ H', Same H H' → Q (.bl (isNm x)) H'
theorem ok_isname {f : Addr} {fd : FuncData} {k : Nat} (F : Fun K "is_name" "is_name" sIsName f fd) {t1 t2 t3 : Tok} (gL : mg "LONGEST_NAME" = some (.int 20 t1)) (gA : mg "LETTERS" = some (.str Lt t2)) (gN : mg "NAME_SIGNS" = some (.str Nz t3))
    (mS : mg "isinstance" = none) (mT : mg "str" = none) (mL : mg "len" = none) (mA : mg "all" = none) : FnOk P w K mg base CX0 (k + 1) f fd ["thing"] spNm := by
  refine F.ok scIsName (fun vs H Q E h => ?_) (fun cdv A outer s H vs Q E hr h => ?_)
  · obtain ⟨x, rfl, _⟩ := h
    rfl
  · obtain ⟨x, rfl, hx, q⟩ := h
    refine ⟨_, pss_cons (ps_if (PW.pt (pw_or (pt_not (pt_val (pe_callB call_isi (by rfl) mS (by decide +kernel) (pa_cons (pv 0) (pa_cons (pe_bltn (v := .ty "str") (u := .type "str") (by rfl) mT (by decide +kernel) rfl) pa_nil)))))
          (pw_or1 (pt_not (pt_chain op_le op_le pe_int (pe_callB call_len_str (by rfl) mL PySem.boot_len (pa_cons (pv 0) pa_nil)) (pe_glob (v := .int 20) (by rfl) gL ⟨_, rfl⟩)))))) (pss_one (ps_ret pe_bl)) pss_nil)
      (pss_one (ps_ret (pe_and (pe_cmpR op_in_sign (pe_ix ix_str (pv 0) pe_int (fun _ _ => rfl)) (pe_glob (v := .str Lt) (by rfl) gA ⟨_, rfl⟩) (by rfl))
        (pe_one (pe_callB (cr_all rfl) (by rfl) mA (by decide +kernel) (pa_cons (pe_lc (own := [("sign", 1)]) (g := gName 1) rfl scIsName.nd (pi_str (pv 0)) (blkOk_by (N := ["thing", "sign"]) (sc := defScope sIsName) (by decide +kernel))
          (fun _ _ _ _ _ => pg_name (i := 1) scIsName.nd rfl (Or.inl rfl)) (fun _ _ _ _ _ => pts_nil)
          (fun _ _ _ _ _ => pe_cmpR op_in_sign (pv 1) (pe_glob (v := .str Nz) (by rfl) gN ⟨_, rfl⟩) (by rfl))) pa_nil)))))), ?_⟩
    obtain ⟨_, _, t3, _⟩ := kits K "str" (by decide)
    refine ⟨_, rfl, .str x, .ty "str", _, _, _, rfl, .ty "str", .base (.str x), t3, _, rfl, ite2 (fun e => ?_) (fun e => ?_)⟩
    · exact absurd e (by decide)
    · have hk : True := trivial
      cases hk with
      | intro =>
        have hz : x.length ≤ sizeLine := by rw [sizeLine_eq]; omega
        refine ⟨.str x, rfl, x, rfl, hz, 1, (x.length : Nat), rfl, rfl, _, rfl, ite2 (fun e1 => ?_) (fun e1 => ?_)⟩
        · have h1 : 1 ≤ x.length := by have := of_decide_eq_true e1; omega
          refine ⟨(x.length : Nat), 20, rfl, rfl, _, rfl, ?_⟩
          by_cases h2 : x.length ≤ 20
          · rw [decide_eq_true (show ((x.length : Nat) : Int) ≤ 20 by omega)]
            obtain ⟨c, hc0, hhd⟩ := head_at h1
            have qq : ∀ H', Same H H' → Q (.bl (decide (c ∈ Lt.cps.toList) && allIn Nz x.cps.toList)) H' := fun H' s => by
              have z := q H' s
              have e0 : isNm x = (decide (c ∈ Lt.cps.toList) && allIn Nz x.cps.toList) := by
                show (decide (1 ≤ x.length) && decide (x.length ≤ 20) && (headIn x && allIn Nz x.cps.toList)) = _
                rw [decide_eq_true h1, decide_eq_true h2, hhd]
                rfl
              rw [e0] at z
              exact z
            refine ⟨.str x, rfl, x, 0, c, rfl, rfl, hz, hc0, c, Lt, rfl, rfl, _, rfl, ite2 (fun e3 => ?_) (fun e3 => ?_)⟩
            · rw [e3] at qq
              refine ⟨.str x, rfl, x, rfl, fun Dl nD => ?_⟩
              refine lc_it (walk_str (z := x)) (fun j Hc => Hc Dl = some (.lst ((x.cps.toList.take j).map fun c => .bl (decide (c ∈ Nz.cps.toList)))) ∧ Same H Hc) ⟨by rw [List.take_zero]; exact upd_same, new_same nD⟩ (fun j Hc _ hP => trivial) ?_ (fun Hc hP => ?_)
              · rintro j v Hc H' hj ⟨c1, c2⟩ ⟨rfl, c, hx, rfl⟩
                have hx' : x.cps.toList[j]? = some c := by rw [Array.getElem?_toList]; exact hx
                refine ⟨rfl, .str ⟨#[c]⟩, rfl, c, Nz, rfl, rfl, _, c1, by rw [List.length_map, List.length_take, sizeLine_eq]; have : x.cps.size = x.length := rfl; omega, ?_, fun y o h => ?_⟩
                · rw [upd_same, List.take_add_one, hx', List.map_append]
                  rfl
                · rw [upd_ne (ne_of_none h nD)]
                  exact c2 y o h
              · obtain ⟨c1, c2⟩ := hP
                have e9 : x.cps.toList.take x.cps.size = x.cps.toList := List.take_of_length_le (by simp)
                rw [e9] at c1
                refine ⟨Dl, x.cps.toList.map fun c => decide (c ∈ Nz.cps.toList), rfl, .inl (.inl (by rw [c1, List.map_map]; rfl)), ?_⟩
                rw [List.all_map]
                exact qq Hc c2
            · have e4 : decide (c ∈ Lt.cps.toList) = false := by simpa using e3
              rw [e4] at qq
              exact qq H (Same.refl _)
          · rw [decide_eq_false (show ¬ ((x.length : Nat) : Int) ≤ 20 by omega)]
            have z := q H (Same.refl _)
            have e0 : isNm x = false := by
              show (decide (1 ≤ x.length) && decide (x.length ≤ 20) && (headIn x && allIn Nz x.cps.toList)) = _
              rw [decide_eq_false h2, Bool.and_false]
              rfl
            rw [e0] at z
            exact z
        · have h1 : ¬ 1 ≤ x.length := fun z => e1 (decide_eq_true (by omega))
          have z := q H (Same.refl _)
          have e0 : isNm x = false := by
            show (decide (1 ≤ x.length) && decide (x.length ≤ 20) && (headIn x && allIn Nz x.cps.toList)) = _
            rw [decide_eq_false h1]
            rfl
          rw [e0] at z
          exact ⟨_, rfl, z⟩
variable {fN fP fB fS : Addr} {dN dP dB dS : FuncData} {t1 t2 t3 t4 t5 t6 : Tok}
def spPath : Sp := fun vs H Q _ => ∃ x : PySem.Str, vs = [.str x] ∧ x.length ≤ 1000000 ∧ ∀ H', Same H H' → Q (.bl (isPath x)) H'
theorem ok_path {k : Nat} (T : Cn K mg fN fP fB fS dN dP dB dS t1 t2 t3 t4 t5 t6) : FnOk P w K mg base CX0 (k + 2) fP dP ["thing"] spPath := by
  have GN : FnOk P w K mg base CX0 (k + 1) fN dN ["thing"] spNm := ok_isname T.FN T.g20 T.gLt T.gNz T.mS T.mT T.mL T.mA
  refine T.FP.ok scIsPath (fun vs H Q E h => ?_) (fun cdv A outer s H vs Q E hr h => ?_)
  · obtain ⟨x, rfl, _⟩ := h
    rfl
  · obtain ⟨x, rfl, hx, q⟩ := h
    refine ⟨_, pss_one (ps_ret (pe_and (pe_callB call_isi (by rfl) T.mS (by decide +kernel) (pa_cons (pv 0) (pa_cons (pe_bltn (v := .ty "str") (u := .type "str") (by rfl) T.mT (by decide +kernel) rfl) pa_nil)))
      (pe_one (pe_callB (cr_all rfl) (by rfl) T.mA (by decide +kernel) (pa_cons (pe_lc (own := [("word", 1)]) (g := gName 1) rfl scIsPath.nd (pi_list (pe_split (pv 0) pe_str)) (blkOk_by (N := ["thing", "word"]) (sc := defScope sIsPath) (by decide +kernel))
        (fun _ _ _ _ _ => pg_name (i := 1) scIsPath.nd rfl (Or.inl rfl)) (fun _ _ _ _ _ => pts_nil) (fun _ _ _ _ _ => pe_mid (pe_call GN hr (by rfl) T.gN T.FN.kp T.bN .nil pass0 (pa_cons (pv 1) pa_nil)))) pa_nil))))), ?_⟩
    have t3 := (kits K "str" (by decide)).2.2.1
    have hz : sizeLine = 16777216 := sizeLine_eq
    refine ⟨_, rfl, .str x, .ty "str", _, _, _, rfl, .ty "str", .base (.str x), t3, _, rfl, ?_⟩
    rw [if_pos (by decide)]
    refine ⟨_, rfl, ⟨x, rfl⟩, x, Sl, rfl, rfl, by decide +kernel, by omega, fun l nl => ⟨l, rfl, ⟨_, .inl (.inl upd_same)⟩, fun D nD => ?_⟩⟩
    have hl : upd H l (.lst ((Txt.split x Sl).map V.str)) l = some (.lst ((Txt.split x Sl).map V.str)) := upd_same
    have sl := new_same (o := .lst ((Txt.split x Sl).map V.str)) nl
    generalize upd H l (.lst ((Txt.split x Sl).map V.str)) = H1 at nD hl sl ⊢
    have many := split_many (x := x) tl_sl (by decide +kernel)
    refine lc_map (walk_list (K := K) (a := l) (xs := (Txt.split x Sl).map V.str)) (fun x y _ => ∃ w, x = V.str w ∧ y = V.bl (isNm w)) nD (by simp) (by rw [List.length_map]; omega) (fun H s => .inl (.inl (s _ _ hl))) (fun _ _ _ _ _ h => h) (fun _ => rfl) (fun j v Hc hv s _ => ?_) (fun H' ys s hD hp => ?_)
    · rw [List.getElem?_map] at hv
      obtain ⟨y, hy, rfl⟩ := Option.map_eq_some_iff.mp hv
      have yl := split_len (x := x) tl_sl (by decide +kernel) (List.mem_of_getElem? hy)
      exact ⟨_, rfl, y, rfl, by omega, fun H2 s2 => ⟨s2, y, rfl, rfl⟩⟩
    · have e := pd_strs (f := fun w => V.bl (isNm w)) hp
      refine ⟨D, (Txt.split x Sl).map isNm, rfl, .inl (.inl (by rw [hD, e, List.map_map]; rfl)), ?_⟩
      rw [List.all_map]
      exact q H' (sl.trans s)
def spNumP : Sp := fun vs H Q _ => ∃ h x : PySem.Str, vs = [.str h, .str x] ∧ x.length ≤ 1000000 ∧ ∀ H', Same H H' → Q (ov (numP h x)) H'
theorem ok_nump {k : Nat} (T : Cn K mg fN fP fB fS dN dP dB dS t1 t2 t3 t4 t5 t6) : FnOk P w K mg base CX0 (k + 1) fB dB ["head", "path"] spNumP := by
  refine T.FB.ok scNumB (fun vs H Q E h => ?_) (fun cdv A outer s H vs Q E hr h => ?_)
  · obtain ⟨h, x, rfl, _⟩ := h
    rfl
  · obtain ⟨h, x, rfl, hx, q⟩ := h
    refine ⟨_, pss_cons (ps_set (i := 2) scNumB.nd rfl (.inl rfl) (pe_bm PySem.F.plainAttrs_str PySem.F.slot_str_removeprefix PySem.F.type_str_removeprefix mt_removeprefix (pv 1) (pa_cons (pv 0) pa_nil)))
      (pss_cons (ps_if (PW.pt (pw_or (pt_not (pt_val (pe_bm PySem.F.plainAttrs_str PySem.F.slot_str_startswith PySem.F.type_str_startswith mt_startswith (pv 1) (pa_cons (pv 0) pa_nil))))
          (pw_or1 (pt_not (pt_chain op_le op_le pe_int (pe_callB call_len_str (by rfl) T.mL PySem.boot_len (pa_cons (pv 2) pa_nil)) (pe_glob (v := .int 19) (by rfl) T.g19 ⟨_, rfl⟩)))))) (pss_one (ps_ret pe_non)) pss_nil)
      (pss_cons (ps_if (PW.pt (pw_or (pt_not (pt_val (pe_callB (cr_all rfl) (by rfl) T.mA (by decide +kernel) (pa_cons (pe_lc (own := [("sign", 3)]) (g := gName 3) rfl scNumB.nd (pi_str (pv 2)) (blkOk_by (N := ["head", "path", "figures", "sign"]) (sc := defScope sNumB) (by decide +kernel))
          (fun _ _ _ _ _ => pg_name (i := 3) scNumB.nd rfl (Or.inl rfl)) (fun _ _ _ _ _ => pts_nil)
          (fun _ _ _ _ _ => pe_mid (pe_cmpR op_in_sign (pv 3) (pe_glob (v := .str Fg) (by rfl) T.gFg ⟨_, rfl⟩) (by rfl)))) pa_nil))))
          (pw_or1 (PW.pt (pw_and (pt_cmpR op_ne (pv 2) pe_str (nomark _)) (pw_and1 (pt_cmpR op_eq (pe_ix ix_str (pv 2) pe_int (fun _ _ => rfl)) pe_str (nomark _)))))))) (pss_one (ps_ret pe_non)) pss_nil)
      (pss_one (ps_ret (pe_callTy call_int_str (by rfl) T.mI (by decide +kernel) (pa_cons (pv 2) pa_nil)))))), ?_⟩
    have hz : sizeLine = 16777216 := sizeLine_eq
    refine ⟨_, rfl, rfl, _, rfl, x, h, rfl, rfl, by omega, ?_⟩
    rw [remp_eq]
    refine ⟨_, rfl, rfl, _, rfl, x, h, rfl, rfl, _, rfl, ?_⟩
    rw [starts_eq]
    by_cases b : begins h x = true
    · rw [b, if_pos rfl]
      have wl : (behind h x).length ≤ 1000000 := by
        have := congrArg PySem.Str.length (begins_eq b)
        rw [strLen_append] at this
        omega
      generalize hw : behind h x = w at wl ⊢
      have qn : ∀ H', Same H H' → ¬ (allD w = true ∧ w.length ≤ 19 ∧ good w = true) → Q .non H' := fun H' s n => by
        have z := q H' s
        unfold numP at z
        rw [hw, if_neg (fun y => n y.2)] at z
        exact z
      refine ⟨.str w, rfl, w, rfl, by omega, 1, (w.length : Nat), rfl, rfl, _, rfl, ite2 (fun e1 => ?_) (fun e1 => ?_)⟩
      · have h1 : 1 ≤ w.length := by have := of_decide_eq_true e1; omega
        refine ⟨(w.length : Nat), 19, rfl, rfl, _, rfl, ?_⟩
        by_cases h2 : w.length ≤ 19
        · rw [decide_eq_true (show ((w.length : Nat) : Int) ≤ 19 by omega)]
          refine ⟨.str w, rfl, w, rfl, fun D nD => ?_⟩
          refine lc_map (walk_sgs (z := w)) (fun x y _ => ∃ c, x = V.str ⟨#[c]⟩ ∧ y = V.bl (decide (c ∈ Fg.cps.toList))) nD (sgs_len w) (by omega) (fun _ _ => trivial) (fun _ _ _ _ _ h => h) (fun _ => rfl) (fun j v Hc hv s _ => ?_) (fun H' ys s hD hp => ?_)
          · unfold sgs at hv
            rw [List.getElem?_map] at hv
            obtain ⟨c, hc, rfl⟩ := Option.map_eq_some_iff.mp hv
            exact ⟨_, rfl, c, Fg, rfl, rfl, Same.refl _, c, rfl, rfl⟩
          · have e := pd_sgs (f := fun c => V.bl (decide (c ∈ Fg.cps.toList))) hp
            refine ⟨D, (tl w).map fun c => decide (c ∈ Fg.cps.toList), rfl, .inl (.inl (by rw [hD, e, List.map_map]; rfl)), ?_⟩
            rw [List.all_map]
            refine ⟨allIn Fg w.cps.toList, rfl, ?_⟩
            by_cases ea : allIn Fg w.cps.toList = true
            · rw [ea]
              have ad : allD w = true := by unfold allD; rw [decide_eq_true h1, ea]; rfl
              obtain ⟨i1, _, _⟩ := allD_val ad (by omega)
              have qi : good w = true → Q (.int (val w)) H' := fun g => by
                have z := q H' s
                unfold numP at z
                rw [hw, if_pos ⟨b, ad, h2, g⟩] at z
                exact z
              refine ⟨_, rfl, rfl, _, rfl, ?_⟩
              by_cases e0 : V.str w = V.str "0"
              · rw [decide_eq_true e0]
                exact ⟨_, rfl, w, _, rfl, i1, by omega, qi (by unfold good; rw [decide_eq_true e0]; rfl)⟩
              · rw [decide_eq_false e0]
                obtain ⟨c, hc0, _⟩ := head_at h1
                have ho := head_ok hc0
                refine ⟨_, rfl, w, 0, c, rfl, rfl, by omega, hc0, rfl, _, rfl, ?_⟩
                by_cases c48 : c = 48
                · rw [decide_eq_true (show V.str ⟨#[c]⟩ = V.str "0" by rw [c48]; rfl)]
                  refine qn H' s fun y => ?_
                  have g := y.2.2
                  unfold good at g
                  rw [decide_eq_false e0, ho, c48] at g
                  exact Bool.noConfusion g
                · rw [decide_eq_false (show ¬ V.str ⟨#[c]⟩ = V.str "0" from fun y => c48 (one_sign y))]
                  exact ⟨_, rfl, w, _, rfl, i1, by omega, qi (by unfold good; rw [decide_eq_false e0, ho, decide_eq_false c48]; rfl)⟩
            · have ea' : allIn Fg w.cps.toList = false := by simpa using ea
              rw [ea']
              refine qn H' s fun y => ?_
              have g := y.1
              unfold allD at g
              rw [ea', Bool.and_false] at g
              exact Bool.noConfusion g
        · rw [decide_eq_false (show ¬ ((w.length : Nat) : Int) ≤ 19 by omega)]
          exact qn H (Same.refl _) fun y => h2 y.2.1
      · have h1 : ¬ 1 ≤ w.length := fun z => e1 (decide_eq_true (by omega))
        refine ⟨_, rfl, qn H (Same.refl _) fun y => ?_⟩
        have g := y.1
        unfold allD at g
        rw [decide_eq_false h1] at g
        exact Bool.noConfusion g
    · have b' : begins h x = false := by simpa using b
      rw [b']
      have z := q H (Same.refl _)
      unfold numP at z
      rw [if_neg (fun y => b y.1)] at z
      exact z
def spShelf : Sp := fun vs H Q _ => ∃ x : PySem.Str, vs = [.str x] ∧ x.length ≤ 1000000 ∧ ∀ H', Same H H' → Q (.bl (isShelf x)) H'
theorem ok_shelf {k : Nat} (T : Cn K mg fN fP fB fS dN dP dB dS t1 t2 t3 t4 t5 t6) : FnOk P w K mg base CX0 (k + 2) fS dS ["path"] spShelf := by
  have GB : FnOk P w K mg base CX0 (k + 1) fB dB ["head", "path"] spNumP := ok_nump T
  refine T.FS.ok scIsShelf (fun vs H Q E h => ?_) (fun cdv A outer s H vs Q E hr h => ?_)
  · obtain ⟨x, rfl, _⟩ := h
    rfl
  · obtain ⟨x, rfl, hx, q⟩ := h
    refine ⟨_, pss_one (ps_ret (pe_cmpR op_notN (pe_call GB hr (by rfl) T.gB T.FB.kp T.bB .nil pass0 (pa_cons (pe_glob (v := .str ShP) (by rfl) T.gSh ⟨_, rfl⟩) (pa_cons (pv 0) pa_nil))) pe_non (nomark _))), ?_⟩
    refine ⟨_, rfl, ShP, x, rfl, hx, fun H1 s1 => ?_⟩
    have z := q H1 s1
    unfold isShelf at z
    refine ⟨rfl, ?_⟩
    cases e : numP ShP x with
    | none => rw [e] at z; exact z
    | some i => rw [e] at z; exact z
end
end V73
/-! Logs, purely: their texts, and how these are read. -/
namespace DK
open PySem PySem.Spec PyProof.Rows L2 TL RX
theorem cutV_init (xs : List V) : cutV xs none (some (-1)) = xs.dropLast := by
  show (xs.drop 0).take ((if (-1 : Int) < 0 then ((-1 : Int) + (xs.length : Int)).toNat else min (-1 : Int).toNat xs.length) - 0) = _
  rw [if_pos (by decide), List.drop_zero, List.dropLast_eq_take]
  exact congrArg (fun n => xs.take n) (by omega)
theorem cutV_drop (xs : List V) (k : Nat) : cutV xs (some (k : Nat)) none = xs.drop k := by
  show (xs.drop (HT.sIx xs.length 0 (some ((k : Nat) : Int)))).take (HT.sIx xs.length xs.length none - HT.sIx xs.length 0 (some ((k : Nat) : Int))) = _
  rw [HT.sIx_nat, HT.sIx_none]
  by_cases h : k ≤ xs.length
  · rw [Nat.min_eq_left h, List.take_of_length_le (by rw [List.length_drop]; exact Nat.le_refl _)]
  · rw [Nat.min_eq_right (by omega), Nat.sub_self, List.take_zero, List.drop_eq_nil_of_le (by omega)]
theorem cutV_take (xs : List V) (k : Nat) : cutV xs none (some (k : Nat)) = xs.take k := by
  show (xs.drop 0).take (HT.sIx xs.length xs.length (some ((k : Nat) : Int)) - 0) = xs.take k
  rw [HT.sIx_nat, List.drop_zero, Nat.sub_zero]
  exact List.take_eq_take_iff.mpr (by omega)
theorem cutV_mid (xs : List V) (k : Nat) : cutV xs (some (k : Nat)) (some (-1)) = (xs.drop k).dropLast := by
  show (xs.drop (HT.sIx xs.length 0 (some ((k : Nat) : Int)))).take ((if (-1 : Int) < 0 then ((-1 : Int) + (xs.length : Int)).toNat else min (-1 : Int).toNat xs.length) - HT.sIx xs.length 0 (some ((k : Nat) : Int))) = _
  rw [HT.sIx_nat, if_pos (by decide), List.dropLast_eq_take, List.length_drop]
  by_cases h : k ≤ xs.length
  · rw [Nat.min_eq_left h]
    exact congrArg (fun n => (xs.drop k).take n) (by omega)
  · rw [Nat.min_eq_right (by omega), List.drop_eq_nil_of_le (by omega), List.drop_eq_nil_of_le (by omega), List.take_nil, List.take_nil]
theorem atI_end {α : Type} {xs : List α} {v : α} (h : xs.getLast? = some v) : atI xs (-1) = some v := by
  obtain ⟨ys, rfl⟩ := List.getLast?_eq_some_iff.mp h
  exact atI_last ys v
theorem joinL_len (S : List Nat) : ∀ ps : List (List Nat), (joinL S ps).length ≤ (ps.map (·.length)).sum + ps.length * S.length
  | [] => Nat.zero_le _
  | [p] => by show p.length ≤ _; simp
  | p :: q :: r => by
    have ih := joinL_len S (q :: r)
    show (p ++ (S ++ joinL S (q :: r))).length ≤ _
    rw [List.length_append, List.length_append, List.map_cons, List.sum_cons, List.length_cons, Nat.succ_mul]
    omega
theorem join_len (y : PySem.Str) (ps : List PySem.Str) : (Txt.join y ps).length ≤ (ps.map (·.length)).sum + ps.length * y.length := by
  have h := joinL_len (tl y) (ps.map tl)
  rw [← tl_join, ← join_eq, ← len_tl, ← len_tl, List.length_map, List.map_map] at h
  have e : (List.length ∘ tl) = fun x : PySem.Str => x.length := funext fun x => (len_tl x).symm
  rw [e] at h
  exact h
theorem sum_le {ps : List PySem.Str} {m : Nat} (h : ∀ p ∈ ps, p.length ≤ m) : (ps.map (·.length)).sum ≤ ps.length * m := by
  induction ps with
  | nil => exact Nat.zero_le _
  | cons p ps ih =>
    rw [List.map_cons, List.sum_cons, List.length_cons, Nat.succ_mul]
    have := h p List.mem_cons_self
    have := ih fun q hq => h q (List.mem_cons_of_mem _ hq)
    omega
theorem pd_at {α β : Type} {F : α → β → Prop} : ∀ {xs : List α} {ys : List β} {j : Nat} {x : α}, Paired F xs ys → xs[j]? = some x → ∃ y, y ∈ ys ∧ F x y
  | _, _, _, _, .nil, h => by simp at h
  | _, _, 0, x, .cons a b, h => by
    simp at h
    exact ⟨_, List.mem_cons_self, h ▸ a⟩
  | _, _, j + 1, x, .cons a b, h => by
    obtain ⟨y, m, f⟩ := pd_at (j := j) b (by simpa using h)
    exact ⟨y, List.mem_cons_of_mem _ m, f⟩
theorem strs_inj {xs ys : List PySem.Str} (h : xs.map V.str = ys.map V.str) : xs = ys := by
  induction xs generalizing ys with
  | nil => cases ys with
    | nil => rfl
    | cons y ys => cases h
  | cons x xs ih => cases ys with
    | nil => cases h
    | cons y ys =>
      rw [List.map_cons, List.map_cons] at h
      injection h with h1 h2
      injection h1 with h1
      rw [h1, ih h2]
theorem join_all {H : Hp} : ∀ {vs : List V} {L : List (List PySem.Str)} {ys : List V}, Paired (fun u ws => ∃ q, u = V.ref q ∧ H q = some (.tup (ws.map V.str))) vs L →
    Paired (fun u y => ∃ ws q, (u = V.ref q ∧ H q = some (.tup (ws.map V.str))) ∧ y = V.str (Txt.join Bk ws)) vs ys → ys = (L.map (Txt.join Bk)).map V.str
  | _, _, _, .nil, h => by cases h; rfl
  | _, _, _, .cons a b, h => by
    cases h with
    | cons c d =>
      obtain ⟨q, rfl, h1⟩ := a
      obtain ⟨ws, q2, ⟨e, h2⟩, rfl⟩ := c
      cases e
      rw [h1] at h2
      have e := strs_inj (HO.tup.inj (Option.some.inj h2))
      rw [join_all b d, e]
      rfl
theorem pd_rows {H : Hp} {f : PySem.Str → List PySem.Str} : ∀ {ps : List PySem.Str} {ys : List V}, Paired (fun x y => ∃ (z : PySem.Str) (q : Addr), x = V.str z ∧ y = V.ref q ∧ H q = some (.tup ((f z).map V.str))) (ps.map V.str) ys →
    Paired (fun u ws => ∃ q, u = V.ref q ∧ H q = some (.tup (ws.map V.str))) ys (ps.map f)
  | [], _, h => by cases h; exact .nil
  | p :: ps, _, h => by
    cases h with
    | cons a b =>
      obtain ⟨z, q, e1, e2, e3⟩ := a
      cases e1
      exact .cons ⟨q, e2, e3⟩ (pd_rows b)
theorem pd_last {α β : Type} {F : α → β → Prop} : ∀ {xs : List α} {ys : List β}, Paired F xs ys → ys ≠ [] → ∃ x y, xs.getLast? = some x ∧ ys.getLast? = some y ∧ F x y
  | _, _, .nil, h => absurd rfl h
  | [x], [y], .cons a .nil, _ => ⟨x, y, rfl, rfl, a⟩
  | x :: x2 :: xs, y :: y2 :: ys, .cons a b, _ => by
    obtain ⟨u, v, h1, h2, h3⟩ := pd_last b (by simp)
    exact ⟨u, v, by rw [List.getLast?_cons_cons]; exact h1, by rw [List.getLast?_cons_cons]; exact h2, h3⟩
theorem pd_init {α β : Type} {F : α → β → Prop} : ∀ {xs : List α} {ys : List β}, Paired F xs ys → Paired F xs.dropLast ys.dropLast
  | _, _, .nil => .nil
  | [_], [_], .cons _ .nil => .nil
  | x :: x2 :: xs, y :: y2 :: ys, .cons a b => .cons a (pd_init b)
theorem pd_fn {H : Hp} {f : List PySem.Str → V} : ∀ {vs : List V} {L : List (List PySem.Str)} {ys : List V}, Paired (fun u ws => ∃ q, u = V.ref q ∧ H q = some (.tup (ws.map V.str))) vs L →
    Paired (fun u y => ∃ (ws : List PySem.Str) (q : Addr), (u = V.ref q ∧ H q = some (.tup (ws.map V.str))) ∧ y = f ws) vs ys → ys = L.map f
  | _, _, _, .nil, h => by cases h; rfl
  | _, _, _, .cons a b, h => by
    cases h with
    | cons c d =>
      obtain ⟨q, rfl, h1⟩ := a
      obtain ⟨ws, q2, ⟨e, h2⟩, rfl⟩ := c
      cases e
      rw [h1] at h2
      have e := strs_inj (HO.tup.inj (Option.some.inj h2))
      rw [pd_fn b d, e]
      rfl
theorem pd_rowsL {H : Hp} {D : Addr} {f : PySem.Str → List PySem.Str} : ∀ {ps : List PySem.Str} {ys : List V}, Paired (fun x y => ∃ (z : PySem.Str) (q : Addr), x = V.str z ∧ y = V.ref q ∧ q ≠ D ∧ H q = some (.lst ((f z).map V.str))) (ps.map V.str) ys →
    Paired (fun u ws => ∃ q, u = V.ref q ∧ H q = some (.lst (ws.map V.str))) ys (ps.map f)
  | [], _, h => by cases h; exact .nil
  | p :: ps, _, h => by
    cases h with
    | cons a b =>
      obtain ⟨z, q, e1, e2, _, e3⟩ := a
      cases e1
      exact .cons ⟨q, e2, e3⟩ (pd_rowsL b)
/-- the same place of both -/
theorem pd_atR {α β : Type} {F : α → β → Prop} : ∀ {xs : List α} {ys : List β} {j : Nat} {x : α}, Paired F xs ys → xs[j]? = some x → ∃ y, ys[j]? = some y ∧ F x y
  | _, _, _, _, .nil, h => by simp at h
  | _, _, 0, x, .cons a b, h => by
    simp at h
    exact ⟨_, rfl, h ▸ a⟩
  | _, _, j + 1, x, .cons a b, h => by
    obtain ⟨y, m, f⟩ := pd_atR (j := j) b (by simpa using h)
    exact ⟨y, by simpa using m, f⟩
theorem rows_back {H H' : Hp} : ∀ {vs : List V} {L : List (List PySem.Str)} {ys : List V}, Paired (fun u ws => ∃ q, u = V.ref q ∧ H q = some (.lst (ws.map V.str))) vs L →
    Paired (fun x y => ∃ (ws : List PySem.Str) (q : Addr) (p : Addr), (x = V.ref q ∧ H q = some (.lst (ws.map V.str))) ∧ y = V.ref p ∧ H' p = some (.tup (ws.map V.str))) vs ys →
    Paired (fun u ws => ∃ q, u = V.ref q ∧ H' q = some (.tup (ws.map V.str))) ys L
  | _, _, _, .nil, h => by cases h; exact .nil
  | _, _, _, .cons a b, h => by
    cases h with
    | cons c d =>
      obtain ⟨q, rfl, h1⟩ := a
      obtain ⟨ws, q2, p, ⟨e, h2⟩, h3, h4⟩ := c
      cases e
      rw [h1] at h2
      have e := strs_inj (HO.lst.inj (Option.some.inj h2))
      exact .cons ⟨p, h3, by rw [e]; exact h4⟩ (rows_back b d)
abbrev Lg := List (List PySem.Str) × PySem.Str
def wordsD (ws : List PySem.Str) : Dt := .tup (ws.map Dt.str)
def logD (g : Lg) : Dt := .tup [.tup (g.1.map wordsD), .str g.2]
def headT (n : Nat) : PySem.Str := "log " ++ num (n : Int)
def logT (g : Lg) : PySem.Str := Txt.join Nl (headT g.1.length :: (g.1.map (Txt.join Bk) ++ ["lock " ++ g.2]))
structure GOk (g : Lg) : Prop where
  few : g.1.length ≤ 100
  w : ∀ ws ∈ g.1, ws.length ≤ 3 ∧ ∀ x ∈ ws, x.length ≤ 100
  l : g.2.length ≤ 100
/-- the rows of words of a text -/
def rowsT (t : PySem.Str) : List (List PySem.Str) := (Txt.split t Nl).map fun l => Txt.split l Bk
def stepB : List PySem.Str → Bool
  | [a, p] => decide (V.str a = V.str "drop") && isPath p
  | [a, p, s] => decide (V.str a = V.str "put") && (isPath p && isShelf s)
  | _ => false
def lockB : List PySem.Str → Bool
  | [a, s] => decide (V.str a = V.str "lock") && isShelf s
  | _ => false
theorem step_cases {ws : List PySem.Str} (h : stepB ws = true) : (∃ y, ws = [("drop" : PySem.Str), y] ∧ isPath y = true) ∨ ∃ y s, ws = [("put" : PySem.Str), y, s] ∧ isPath y = true ∧ isShelf s = true := by
  match ws, h with
  | [a, p], h =>
    have h' : (decide (V.str a = V.str "drop") && isPath p) = true := h
    rw [Bool.and_eq_true, decide_eq_true_eq] at h'
    exact .inl ⟨p, by injection h'.1 with e; rw [e], h'.2⟩
  | [a, p, s], h =>
    have h' : (decide (V.str a = V.str "put") && (isPath p && isShelf s)) = true := h
    rw [Bool.and_eq_true, Bool.and_eq_true, decide_eq_true_eq] at h'
    exact .inr ⟨p, s, by injection h'.1 with e; rw [e], h'.2.1, h'.2.2⟩
  | [], h => cases h
  | [_], h => cases h
  | _ :: _ :: _ :: _ :: _, h => cases h
theorem lock_two {ws : List PySem.Str} (h : lockB ws = true) : ws.length = 2 := by
  match ws, h with
  | [a, s], _ => rfl
  | [], h => cases h
  | [_], h => cases h
  | _ :: _ :: _ :: _, h => cases h
def readR (rest : List (List PySem.Str)) : Option Lg := if rest.dropLast.all stepB = true ∧ lockB (rest.getLastD []) = true then some (rest.dropLast, (rest.getLastD []).getD 1 "") else none
def readG (t : PySem.Str) : Option Lg := match rowsT t with
  | [] => none
  | first :: rest => if rest ≠ [] ∧ first = [("log" : PySem.Str), num ((rest.length - 1 : Nat) : Int)] then readR rest else none
def readD (t : PySem.Str) : Dt := match readG t with | some g => logD g | none => .non
/-- a line of two words -/
theorem two_words {l a b : PySem.Str} (ha : (32 : Nat) ∉ tl a) (hb : (32 : Nat) ∉ tl b) : Txt.split l Bk = [a, b] ↔ l = a ++ " " ++ b := by
  rw [split_iff tl_bk (by decide +kernel) (by simp) (by intro p hp; simp only [List.mem_cons, List.not_mem_nil, or_false] at hp; rcases hp with e | e <;> rw [e] <;> assumption)]
  have e : Txt.join Bk [a, b] = a ++ " " ++ b := by
    refine ext_tl ?_
    rw [join_eq, tl_join, tl_append, tl_append]
    show tl a ++ (tl Bk ++ tl b) = _
    rw [List.append_assoc]
    rfl
  rw [e]
theorem head_line (l : PySem.Str) (n : Nat) : Txt.split l Bk = [("log" : PySem.Str), num (n : Int)] ↔ l = headT n := by
  rw [two_words (by decide +kernel) (num_free n (.inl (by decide)))]
  unfold headT
  rw [show (("log" : PySem.Str) ++ " " : PySem.Str) = "log " from by decide +kernel]
end DK
/-! Drawn logs, purely; what readings of texts cost. -/
namespace DK
open PySem PySem.Spec PyProof.Rows L2 TL RX
def PTH : List PySem.Str := ["a", "app/doc", "bin/b-2", "xxxxxxxxxxxxxxxxxxxx/y", "a", "a/b/c/d", "z9"]
def SHV : List PySem.Str := ["store/c0", "store/c1", "store/c7", "store/c10", "store/c123456789", "store/c1000000000000000000"]
theorem pth_ok : ∀ p ∈ PTH, isPath p = true ∧ (32 : Nat) ∉ tl p ∧ (10 : Nat) ∉ tl p ∧ p.length ≤ 22 ∧ W dg p ≤ 1 ∧ ∀ c ∈ tl p, c < 0x110000 := by decide +kernel
theorem shv_ok : ∀ p ∈ SHV, isShelf p = true ∧ (32 : Nat) ∉ tl p ∧ (10 : Nat) ∉ tl p ∧ p.length ≤ 26 ∧ W dg p ≤ 19 ∧ ∀ c ∈ tl p, c < 0x110000 := by decide +kernel
/-- a drawn step -/
def StD (ws : List PySem.Str) : Prop := (∃ p ∈ PTH, ws = [("drop" : PySem.Str), p]) ∨ ∃ p ∈ PTH, ∃ s ∈ SHV, ws = [("put" : PySem.Str), p, s]
structure LgD (g : Lg) : Prop where
  few : g.1.length ≤ 6
  st : ∀ ws ∈ g.1, StD ws
  lk : g.2 ∈ SHV
theorem StD.ok {ws : List PySem.Str} (h : StD ws) : stepB ws = true ∧ (∀ x ∈ ws, (32 : Nat) ∉ tl x ∧ (10 : Nat) ∉ tl x ∧ x.length ≤ 26 ∧ ∀ c ∈ tl x, c < 0x110000) ∧ ws.length ≤ 3 ∧ ws ≠ [] ∧ (ws.map (·.length)).sum ≤ 51 ∧ (ws.map (W dg)).sum ≤ 20 := by
  rcases h with ⟨p, hp, rfl⟩ | ⟨p, hp, s, hs, rfl⟩
  · obtain ⟨a1, a2, a3, a4, a5, a6⟩ := pth_ok p hp
    have b1 : ("drop" : PySem.Str).length = 4 := by decide +kernel
    have b2 : W dg "drop" = 0 := by decide +kernel
    refine ⟨?_, ?_, by simp, by simp, ?_, ?_⟩
    · show (decide (V.str "drop" = V.str "drop") && isPath p) = true
      rw [a1, decide_eq_true rfl]; rfl
    · intro x hx
      simp only [List.mem_cons, List.not_mem_nil, or_false] at hx
      rcases hx with rfl | rfl
      · exact ⟨by decide +kernel, by decide +kernel, by decide +kernel, by decide +kernel⟩
      · exact ⟨a2, a3, by omega, a6⟩
    · simp only [List.map_cons, List.map_nil, List.sum_cons, List.sum_nil, b1]; omega
    · simp only [List.map_cons, List.map_nil, List.sum_cons, List.sum_nil, b2]; omega
  · obtain ⟨a1, a2, a3, a4, a5, a6⟩ := pth_ok p hp
    obtain ⟨c1, c2, c3, c4, c5, c6⟩ := shv_ok s hs
    have b1 : ("put" : PySem.Str).length = 3 := by decide +kernel
    have b2 : W dg "put" = 0 := by decide +kernel
    refine ⟨?_, ?_, by simp, by simp, ?_, ?_⟩
    · show (decide (V.str "put" = V.str "put") && (isPath p && isShelf s)) = true
      rw [a1, c1, decide_eq_true rfl]; rfl
    · intro x hx
      simp only [List.mem_cons, List.not_mem_nil, or_false] at hx
      rcases hx with rfl | rfl | rfl
      · exact ⟨by decide +kernel, by decide +kernel, by decide +kernel, by decide +kernel⟩
      · exact ⟨a2, a3, by omega, a6⟩
      · exact ⟨c2, c3, by omega, c6⟩
    · simp only [List.map_cons, List.map_nil, List.sum_cons, List.sum_nil, b1]; omega
    · simp only [List.map_cons, List.map_nil, List.sum_cons, List.sum_nil, b2]; omega
theorem LgD.gok {g : Lg} (h : LgD g) : GOk g := by
  refine ⟨by have := h.few; omega, fun ws hw => ?_, ?_⟩
  · obtain ⟨_, h2, h3, _⟩ := (h.st ws hw).ok
    exact ⟨h3, fun x hx => by have := (h2 x hx).2.2.1; omega⟩
  · have := (shv_ok g.2 h.lk).2.2.2.1
    omega
theorem head_few {n : Nat} (h : n ≤ 6) : (10 : Nat) ∉ tl (headT n) ∧ (headT n).length ≤ 5 ∧ W dg (headT n) ≤ 1 ∧ ∀ c ∈ tl (headT n), c < 0x110000 := by
  have : ∀ n ∈ [0, 1, 2, 3, 4, 5, 6], (10 : Nat) ∉ tl (headT n) ∧ (headT n).length ≤ 5 ∧ W dg (headT n) ≤ 1 ∧ ∀ c ∈ tl (headT n), c < 0x110000 := by decide +kernel
  exact this n (by simp only [List.mem_cons, List.not_mem_nil, or_false]; omega)
theorem lock_line {s : PySem.Str} (h : s ∈ SHV) : (10 : Nat) ∉ tl ("lock " ++ s) ∧ ("lock " ++ s : PySem.Str).length ≤ 31 ∧ W dg ("lock " ++ s) ≤ 19 ∧ (∀ c ∈ tl ("lock " ++ s : PySem.Str), c < 0x110000) ∧ Txt.split ("lock " ++ s) Bk = [("lock" : PySem.Str), s] := by
  obtain ⟨c1, c2, c3, c4, c5, c6⟩ := shv_ok s h
  have k1 : ("lock " : PySem.Str).length = 5 := by decide +kernel
  have k2 : W dg "lock " = 0 := by decide +kernel
  have k3 : (10 : Nat) ∉ tl ("lock " : PySem.Str) := by decide +kernel
  have k4 : ∀ c ∈ tl ("lock " : PySem.Str), c < 0x110000 := by decide +kernel
  refine ⟨?_, by rw [strLen_append, k1]; omega, by rw [W_app, k2]; omega, fun c hc => ?_, ?_⟩
  · rw [tl_append, List.mem_append]
    exact fun z => z.elim k3 c3
  · rw [tl_append, List.mem_append] at hc
    exact hc.elim (k4 c) (c6 c)
  · refine (two_words (by decide +kernel) c2).mpr ?_
    rw [show (("lock" : PySem.Str) ++ " " : PySem.Str) = "lock " from by decide +kernel]
theorem step_line {ws : List PySem.Str} (h : StD ws) : (10 : Nat) ∉ tl (Txt.join Bk ws) ∧ (Txt.join Bk ws).length ≤ 54 ∧ W dg (Txt.join Bk ws) ≤ 20 ∧ (∀ c ∈ tl (Txt.join Bk ws), c < 0x110000) ∧ Txt.split (Txt.join Bk ws) Bk = ws := by
  obtain ⟨_, h2, h3, h4, h5, h6⟩ := h.ok
  refine ⟨fun m => ?_, ?_, ?_, fun c hc => ?_, (split_iff tl_bk (by decide +kernel) h4 fun p hp => (h2 p hp).1).mpr rfl⟩
  · rcases mem_join m with z | ⟨p, hp, z⟩
    · rw [tl_bk] at z; simp at z
    · exact (h2 p hp).2.1 z
  · have := join_len Bk ws
    have hb : Bk.length = 1 := by decide +kernel
    rw [hb] at this
    omega
  · have := (W_join (f := dg) Bk ws).1
    have hb : W dg Bk = 0 := by decide +kernel
    rw [hb] at this
    omega
  · rcases mem_join hc with z | ⟨p, hp, z⟩
    · rw [tl_bk] at z; simp at z; omega
    · exact (h2 p hp).2.2.2 c z
theorem LgD.rows {g : Lg} (h : LgD g) : rowsT (logT g) = [("log" : PySem.Str), num (g.1.length : Nat)] :: (g.1 ++ [[("lock" : PySem.Str), g.2]]) := by
  have e : Txt.split (logT g) Nl = headT g.1.length :: (g.1.map (Txt.join Bk) ++ ["lock " ++ g.2]) := by
    refine (split_iff tl_nl (by decide +kernel) (by simp) fun p hp => ?_).mpr rfl
    rcases List.mem_cons.mp hp with e | hp
    · rw [e]; exact (head_few h.few).1
    · rcases List.mem_append.mp hp with hp | hp
      · obtain ⟨ws, hw, rfl⟩ := List.mem_map.mp hp
        exact (step_line (h.st ws hw)).1
      · rw [List.mem_singleton.mp hp]; exact (lock_line h.lk).1
  unfold rowsT
  rw [e, List.map_cons, (head_line (headT g.1.length) g.1.length).mpr rfl, List.map_append, List.map_map]
  have e2 : g.1.map ((fun l => Txt.split l Bk) ∘ Txt.join Bk) = g.1 := by
    have : ∀ L : List (List PySem.Str), (∀ ws ∈ L, StD ws) → L.map ((fun l => Txt.split l Bk) ∘ Txt.join Bk) = L := by
      intro L
      induction L with
      | nil => intro _; rfl
      | cons a L ih =>
        intro hL
        rw [List.map_cons, ih fun ws hw => hL ws (List.mem_cons_of_mem _ hw)]
        show Txt.split (Txt.join Bk a) Bk :: L = _
        rw [(step_line (hL a List.mem_cons_self)).2.2.2.2]
    exact this g.1 h.st
  rw [e2, List.map_cons, (lock_line h.lk).2.2.2.2]
  rfl
/-- a drawn log is read from its text -/
theorem LgD.read {g : Lg} (h : LgD g) : readD (logT g) = logD g := by
  have e : readG (logT g) = some g := by
    unfold readG
    rw [h.rows]
    show (if (g.1 ++ [[("lock" : PySem.Str), g.2]]) ≠ [] ∧ _ then _ else _) = _
    rw [if_pos ⟨by simp, by rw [List.length_append]; simp⟩]
    unfold readR
    have e1 : (g.1 ++ [[("lock" : PySem.Str), g.2]]).dropLast = g.1 := by simp
    have e2 : (g.1 ++ [[("lock" : PySem.Str), g.2]]).getLastD [] = [("lock" : PySem.Str), g.2] := by rw [List.getLastD_eq_getLast?]; simp
    have e3 : lockB [("lock" : PySem.Str), g.2] = true := by
      show (decide (V.str "lock" = V.str "lock") && isShelf g.2) = true
      rw [(shv_ok g.2 h.lk).1, decide_eq_true rfl]; rfl
    rw [e1, e2, if_pos ⟨List.all_eq_true.mpr fun ws hw => (h.st ws hw).ok.1, e3⟩]
    rfl
  unfold readD
  rw [e]
theorem sum_leN {α : Type} {f : α → Nat} {m : Nat} : ∀ {L : List α}, (∀ x ∈ L, f x ≤ m) → (L.map f).sum ≤ L.length * m
  | [], _ => Nat.zero_le _
  | x :: L, h => by
    rw [List.map_cons, List.sum_cons, List.length_cons, Nat.succ_mul]
    have := sum_leN (L := L) fun y hy => h y (List.mem_cons_of_mem _ hy)
    have := h x List.mem_cons_self
    omega
theorem LgD.tm {g : Lg} (h : LgD g) : Tm 400 140 (logT g) := by
  have hl := head_few h.few
  have kl := lock_line h.lk
  have few := h.few
  refine ⟨?_, ?_, fun c hc => ?_⟩
  · have j := join_len Nl (headT g.1.length :: (g.1.map (Txt.join Bk) ++ ["lock " ++ g.2]))
    have hb : Nl.length = 1 := by decide +kernel
    have s : ((g.1.map (Txt.join Bk)).map (·.length)).sum ≤ g.1.length * 54 := by
      rw [List.map_map]
      exact sum_leN fun ws hw => (step_line (h.st ws hw)).2.1
    have m : g.1.length * 54 ≤ 6 * 54 := Nat.mul_le_mul_right _ few
    rw [List.map_cons, List.sum_cons, List.map_append, List.sum_append, List.length_cons, List.length_append, List.length_map, hb] at j
    simp only [List.map_cons, List.map_nil, List.sum_cons, List.sum_nil, List.length_cons, List.length_nil] at j
    show (Txt.join Nl _).length ≤ 400
    omega
  · have j := (W_join (f := dg) Nl (headT g.1.length :: (g.1.map (Txt.join Bk) ++ ["lock " ++ g.2]))).1
    have hb : W dg Nl = 0 := by decide +kernel
    have s : ((g.1.map (Txt.join Bk)).map (W dg)).sum ≤ g.1.length * 20 := by
      rw [List.map_map]
      exact sum_leN fun ws hw => (step_line (h.st ws hw)).2.2.1
    have m : g.1.length * 20 ≤ 6 * 20 := Nat.mul_le_mul_right _ few
    rw [List.map_cons, List.sum_cons, List.map_append, List.sum_append, hb, Nat.mul_zero] at j
    simp only [List.map_cons, List.map_nil, List.sum_cons, List.sum_nil] at j
    show W dg (Txt.join Nl _) ≤ 140
    omega
  · rcases mem_join hc with z | ⟨p, hp, z⟩
    · rw [tl_nl] at z; simp at z; omega
    · rcases List.mem_cons.mp hp with e | hp
      · rw [e] at z; exact hl.2.2.2 c z
      · rcases List.mem_append.mp hp with hp | hp
        · obtain ⟨ws, hw, rfl⟩ := List.mem_map.mp hp
          exact (step_line (h.st ws hw)).2.2.2.1 c z
        · rw [List.mem_singleton.mp hp] at z; exact kl.2.2.2.1 c z
theorem lock_pair {ws : List PySem.Str} (h : lockB ws = true) : ∃ x y, ws = [x, y] := by
  match ws, h with
  | [a, s], _ => exact ⟨a, s, rfl⟩
  | [], h => cases h
  | [_], h => cases h
  | _ :: _ :: _ :: _, h => cases h
theorem last_mem {R : List (List PySem.Str)} (h : R ≠ []) : R.getLastD [] ∈ R := by
  rw [List.getLastD_eq_getLast?]
  cases e : R.getLast? with
  | none => exact absurd (List.getLast?_eq_none_iff.mp e) h
  | some x => exact List.mem_of_getLast? e
/-! costs -/
theorem cost_strs (ws : List PySem.Str) : Dt.costAll (ws.map Dt.str) = 10 * (ws.map (·.length)).sum + 10 * ws.length := by
  induction ws with
  | nil => rfl
  | cons w ws ih =>
    rw [List.map_cons, List.map_cons, List.sum_cons, List.length_cons]
    show (10 * w.length + 10) + Dt.costAll (ws.map Dt.str) = _
    rw [ih]
    omega
theorem dep_strs : ∀ ws : List PySem.Str, Dt.depAll (ws.map Dt.str) = 0
  | [] => rfl
  | w :: ws => by
    show max 0 (Dt.depAll (ws.map Dt.str)) = 0
    rw [dep_strs ws]; rfl
theorem fine_strs : ∀ {ws : List PySem.Str}, (∀ x ∈ ws, Sg x) → FineAll (ws.map Dt.str)
  | [], _ => .nil
  | w :: ws, h => .cons (.str w (h w List.mem_cons_self)) (fine_strs fun x hx => h x (List.mem_cons_of_mem _ hx))
theorem len_W (ws : List PySem.Str) : (ws.map (·.length)).sum = (ws.map (W (fun _ => 1))).sum := by
  congr 1
  exact List.map_congr_left fun x _ => (W_one x).symm
theorem cost_rows : ∀ L : List PySem.Str, Dt.costAll (L.map fun l => wordsD (Txt.split l Bk)) ≤ 20 * (L.map (·.length)).sum + 20 * L.length
  | [] => Nat.zero_le _
  | l :: L => by
    have ih := cost_rows L
    rw [List.map_cons, List.map_cons, List.sum_cons, List.length_cons]
    show (10 + Dt.costAll ((Txt.split l Bk).map Dt.str)) + Dt.costAll (L.map fun l => wordsD (Txt.split l Bk)) ≤ _
    rw [cost_strs, len_W]
    have h1 := W_split (f := fun _ => 1) l Bk
    rw [W_one] at h1
    have h2 := split_many (x := l) tl_bk (by decide +kernel)
    omega
theorem cost_sub : ∀ {L M : List Dt}, L.Sublist M → Dt.costAll L ≤ Dt.costAll M
  | _, _, .slnil => Nat.le_refl _
  | _, _, .cons a h => by
    have := cost_sub h
    show _ ≤ Dt.cost a + _
    omega
  | _, _, .cons_cons a h => by
    have := cost_sub h
    show Dt.cost a + _ ≤ Dt.cost a + _
    omega
theorem dep_rows : ∀ R : List (List PySem.Str), Dt.depAll (R.map wordsD) ≤ 1
  | [] => Nat.zero_le _
  | ws :: R => by
    show max (Dt.depAll (ws.map Dt.str) + 1) (Dt.depAll (R.map wordsD)) ≤ 1
    rw [dep_strs]
    have := dep_rows R
    omega
theorem fine_rows : ∀ {R : List (List PySem.Str)}, (∀ ws ∈ R, ∀ x ∈ ws, Sg x) → FineAll (R.map wordsD)
  | [], _ => .nil
  | ws :: R, h => .cons (.tup (fine_strs (h ws List.mem_cons_self))) (fine_rows fun x hx => h x (List.mem_cons_of_mem _ hx))
theorem gd_rows {R : List (List PySem.Str)} {s : PySem.Str} (f : ∀ ws ∈ R, ∀ x ∈ ws, Sg x) (hs : Sg s) (hl : s.length ≤ 100000) (hc : Dt.costAll (R.map wordsD) ≤ 10000000) : Gd (logD (R, s)) := by
  refine ⟨.tup (.cons (.tup (fine_rows f)) (.cons (.str s hs) .nil)), ?_, ?_⟩
  · show max (Dt.depAll (R.map wordsD) + 1) (max 0 0) + 1 ≤ 59
    have := dep_rows R
    omega
  · show 10 + ((10 + Dt.costAll (R.map wordsD)) + ((10 * s.length + 10) + 0)) ≤ 16000000
    omega
/-- what is read of a text prints within bounds -/
theorem gd_read {t : PySem.Str} {n g : Nat} (h : Tm n g t) (hn : n ≤ 10000) : Gd (readD t) := by
  unfold readD
  cases e : readG t with
  | none => exact ⟨.non, Nat.zero_le _, by show 10 ≤ _; omega⟩
  | some a =>
    unfold readG at e
    cases hr : rowsT t with
    | nil => rw [hr] at e; cases e
    | cons first rest =>
      rw [hr] at e
      have e' : (if rest ≠ [] ∧ first = [("log" : PySem.Str), num ((rest.length - 1 : Nat) : Int)] then readR rest else none) = some a := e
      by_cases c : rest ≠ [] ∧ first = [("log" : PySem.Str), num ((rest.length - 1 : Nat) : Int)]
      · rw [if_pos c] at e'
        unfold readR at e'
        by_cases c2 : rest.dropLast.all stepB = true ∧ lockB (rest.getLastD []) = true
        · rw [if_pos c2] at e'
          cases e'
          have ok : ∀ ws ∈ rowsT t, ∀ x ∈ ws, Tm n g x := fun ws hw x hx => by
            unfold rowsT at hw
            obtain ⟨y, hy, rfl⟩ := List.mem_map.mp hw
            exact (h.piece tl_nl (by decide +kernel) hy).piece tl_bk (by decide +kernel) hx
          have sg : ∀ {x : PySem.Str}, Tm n g x → Sg x := fun t => OkS.sg t.ok (by have := t.len; omega)
          rw [hr] at ok
          refine gd_rows (fun ws hw x hx => sg (ok ws (List.mem_cons_of_mem _ (List.dropLast_subset _ hw)) x hx)) ?_ ?_ ?_
          · obtain ⟨x, y, ex⟩ := lock_pair c2.2
            rw [ex]
            have : [x, y] ∈ rest := by rw [← ex]; exact last_mem c.1
            exact sg (ok _ (List.mem_cons_of_mem _ this) y (by simp))
          · obtain ⟨x, y, ex⟩ := lock_pair c2.2
            rw [ex]
            have : [x, y] ∈ rest := by rw [← ex]; exact last_mem c.1
            have := (ok _ (List.mem_cons_of_mem _ this) y (by simp)).len
            show y.length ≤ _
            omega
          · have c1 := cost_rows (Txt.split t Nl)
            have h1 := W_split (f := fun _ => 1) t Nl
            rw [W_one, ← len_W] at h1
            have h2 := split_many (x := t) tl_nl (by decide +kernel)
            have h3 : (rest.dropLast.map wordsD).Sublist ((Txt.split t Nl).map fun l => wordsD (Txt.split l Bk)) := by
              have e3 : ((Txt.split t Nl).map fun l => wordsD (Txt.split l Bk)) = (rowsT t).map wordsD := by unfold rowsT; rw [List.map_map]; rfl
              rw [e3, hr]
              exact ((List.dropLast_sublist rest).trans (List.sublist_cons_self _ _)).map _
            have h4 := cost_sub h3
            have := h.len
            omega
        · rw [if_neg c2] at e'; cases e'
      · rw [if_neg c] at e'; cases e'
end DK
/-! Texts near one, purely. -/
namespace DK
open PySem PySem.Spec PyProof.Rows L2 TL RX
theorem tl_drop (x : PySem.Str) (k : Nat) : tl (cutS x (some (k : Nat)) none) = (tl x).drop k := by
  show ((x.cps.toList.drop (HT.sIx x.length 0 (some ((k : Nat) : Int)))).take (HT.sIx x.length x.length none - HT.sIx x.length 0 (some ((k : Nat) : Int)))) = _
  rw [HT.sIx_nat, HT.sIx_none]
  have l : x.cps.toList.length = x.length := (len_tl x).symm
  by_cases e : k ≤ x.length
  · rw [Nat.min_eq_left e, List.take_of_length_le (by rw [List.length_drop, l]; exact Nat.le_refl _)]
  · rw [Nat.min_eq_right (by omega), Nat.sub_self, List.take_zero, List.drop_eq_nil_of_le (by rw [← len_tl]; omega)]
theorem take_drop_sub {α : Type} (l : List α) {a b : Nat} (h : a ≤ b) : (l.take a ++ l.drop b).Sublist l := by
  have : (l.take a ++ l.drop b).Sublist (l.take b ++ l.drop b) := ((List.take_prefix_take_left h).sublist).append (List.Sublist.refl _)
  rwa [List.take_append_drop] at this
section
variable {f : Nat → Nat}
theorem W_joinL_ge (S : List Nat) : ∀ ps : List (List Nat), (ps.map fun p => (p.map f).sum).sum + (ps.length - 1) * (S.map f).sum ≤ ((joinL S ps).map f).sum
  | [] => by simp
  | [p] => by
    show ((p.map f).sum + 0) + 0 * _ ≤ (p.map f).sum
    omega
  | p :: q :: r => by
    have ih := W_joinL_ge S (q :: r)
    have e : ((joinL S (p :: q :: r)).map f).sum = (p.map f).sum + ((S.map f).sum + ((joinL S (q :: r)).map f).sum) := by
      show ((p ++ (S ++ joinL S (q :: r))).map f).sum = _
      rw [List.map_append, List.map_append, List.sum_append, List.sum_append]
    rw [e, List.map_cons, List.sum_cons]
    have e2 : (p :: q :: r).length - 1 = ((q :: r).length - 1) + 1 := by simp
    rw [e2, Nat.succ_mul]
    omega
theorem W_split_ge (x y : PySem.Str) : ((Txt.split x y).map (W f)).sum + ((Txt.split x y).length - 1) * W f y ≤ W f x := by
  have h := W_joinL_ge (f := f) (tl y) ((Txt.split x y).map tl)
  have e := StrLaws.join_split x y
  rw [← tl_join, e, List.map_map, List.length_map] at h
  exact h
end
theorem lines_sum {n g : Nat} {t : PySem.Str} (h : Tm n g t) : ((Txt.split t Nl).map (·.length)).sum + (Txt.split t Nl).length ≤ n + 1 ∧ ((Txt.split t Nl).map (W dg)).sum ≤ g ∧ ∀ p ∈ Txt.split t Nl, OkS p := by
  refine ⟨?_, Nat.le_trans (W_split t Nl) h.dig, fun p hp => (h.piece tl_nl (by decide +kernel) hp).ok⟩
  have w := W_split_ge (f := fun _ => 1) t Nl
  rw [W_one, W_one, ← len_W, show Nl.length = 1 from by decide +kernel, Nat.mul_one] at w
  have := h.len
  have : 1 ≤ (Txt.split t Nl).length := List.length_pos_iff.mpr (split_ne tl_nl (by decide +kernel))
  omega
theorem tm_join {ps : List PySem.Str} {A B C : Nat} (h1 : (ps.map (·.length)).sum ≤ A) (h2 : (ps.map (W dg)).sum ≤ B) (h3 : ps.length ≤ C) (ok : ∀ p ∈ ps, OkS p) : Tm (A + C) B (Txt.join Nl ps) := by
  refine ⟨?_, ?_, fun c hc => ?_⟩
  · have := join_len Nl ps
    have hb : Nl.length = 1 := by decide +kernel
    rw [hb] at this
    omega
  · have := (W_join (f := dg) Nl ps).1
    have hb : W dg Nl = 0 := by decide +kernel
    rw [hb] at this
    omega
  · rcases mem_join hc with z | ⟨p, hp, z⟩
    · rw [tl_nl] at z; simp at z; omega
    · exact ok p hp c z
theorem sum_len_sub {l m : List PySem.Str} (h : l.Sublist m) : (l.map (·.length)).sum ≤ (m.map (·.length)).sum := by
  rw [len_W, len_W]
  exact sum_subS h
/-- the short odd lines -/
structure Odd (x : PySem.Str) : Prop where
  l : x.length ≤ 15
  d : W dg x ≤ 3
  o : OkS x
section
variable {n g : Nat} {t : PySem.Str} (h : Tm n g t)
include h
theorem near_out (k : Nat) : Tm (2 * n + 20) (2 * g) (Txt.join Nl ((Txt.split t Nl).take k ++ (Txt.split t Nl).drop (k + 1))) := by
  obtain ⟨a, b, c⟩ := lines_sum h
  have s := take_drop_sub (Txt.split t Nl) (show k ≤ k + 1 by omega)
  exact (tm_join (sum_len_sub s) (Nat.le_trans (sum_subS s) b) s.length_le fun p hp => c p (s.mem hp)).up (by omega) (by omega)
theorem near_odd (k : Nat) {x : PySem.Str} (o : Odd x) (hg : 3 ≤ g) : Tm (2 * n + 20) (2 * g) (Txt.join Nl ((Txt.split t Nl).take k ++ [x] ++ (Txt.split t Nl).drop (k + 1))) := by
  obtain ⟨a, b, c⟩ := lines_sum h
  have s := take_drop_sub (Txt.split t Nl) (show k ≤ k + 1 by omega)
  have s1 := sum_len_sub s
  have s2 := sum_subS (f := dg) s
  have s3 := s.length_le
  have ol := o.l
  have od := o.d
  rw [List.map_append, List.sum_append] at s1 s2
  rw [List.length_append] at s3
  refine (tm_join (A := n + 16) (B := g + 3) (C := (Txt.split t Nl).length + 1) ?_ ?_ ?_ fun p hp => ?_).up ?_ (by omega)
  · rw [List.map_append, List.map_append, List.sum_append, List.sum_append, List.map_cons, List.map_nil, List.sum_cons, List.sum_nil]
    omega
  · rw [List.map_append, List.map_append, List.sum_append, List.sum_append, List.map_cons, List.map_nil, List.sum_cons, List.sum_nil]
    omega
  · rw [List.length_append, List.length_append, List.length_singleton]
    omega
  · rcases List.mem_append.mp hp with hp | hp
    · rcases List.mem_append.mp hp with hp | hp
      · exact c p (List.mem_of_mem_take hp)
      · rw [List.mem_singleton.mp hp]; exact o.o
    · exact c p (List.mem_of_mem_drop hp)
  · omega
theorem near_twice (k : Nat) : Tm (2 * n + 20) (2 * g) (Txt.join Nl ((Txt.split t Nl).take (k + 1) ++ (Txt.split t Nl).drop k)) := by
  obtain ⟨a, b, c⟩ := lines_sum h
  have s1 := sum_len_sub (List.take_sublist (k + 1) (Txt.split t Nl))
  have s2 := sum_len_sub (List.drop_sublist k (Txt.split t Nl))
  have d1 := sum_subS (f := dg) (List.take_sublist (k + 1) (Txt.split t Nl))
  have d2 := sum_subS (f := dg) (List.drop_sublist k (Txt.split t Nl))
  refine (tm_join (A := 2 * ((Txt.split t Nl).map (·.length)).sum) (B := 2 * g) (C := (Txt.split t Nl).length + 1) ?_ ?_ ?_ fun p hp => ?_).up (by omega) (Nat.le_refl _)
  · rw [List.map_append, List.sum_append]; omega
  · rw [List.map_append, List.sum_append]; omega
  · rw [List.length_append, List.length_take, List.length_drop]; omega
  · rcases List.mem_append.mp hp with hp | hp
    · exact c p (List.mem_of_mem_take hp)
    · exact c p (List.mem_of_mem_drop hp)
theorem near_sign (a b : Nat) (hab : a ≤ b) {x : PySem.Str} (hx : x.length ≤ 1) (ox : OkS x) (hg : 3 ≤ g) : Tm (2 * n + 20) (2 * g) (cutS t none (some (a : Nat)) ++ x ++ cutS t (some (b : Nat)) none) := by
  have s := take_drop_sub (tl t) hab
  have e1 : (cutS t none (some (a : Nat))).length = ((tl t).take a).length := by rw [len_tl, tl_take]
  have e2 : (cutS t (some (b : Nat)) none).length = ((tl t).drop b).length := by rw [len_tl, tl_drop]
  refine ⟨?_, ?_, fun c hc => ?_⟩
  · rw [strLen_append, strLen_append, e1, e2]
    have := s.length_le
    rw [List.length_append, ← len_tl] at this
    have := h.len
    omega
  · rw [W_app, W_app]
    have s2 := sum_sub (f := dg) s
    rw [List.map_append, List.sum_append] at s2
    have d1 : W dg (cutS t none (some (a : Nat))) = (((tl t).take a).map dg).sum := by unfold W; rw [tl_take]
    have d2 : W dg (cutS t (some (b : Nat)) none) = (((tl t).drop b).map dg).sum := by unfold W; rw [tl_drop]
    have d3 : (((tl t).map dg).sum) ≤ g := h.dig
    have d4 := W_dg_le x
    rw [d1, d2]
    omega
  · rw [tl_append, tl_append] at hc
    rcases List.mem_append.mp hc with hc | hc
    · rcases List.mem_append.mp hc with hc | hc
      · rw [tl_take] at hc; exact h.ok c (List.mem_of_mem_take hc)
      · exact ox c hc
    · rw [tl_drop] at hc; exact h.ok c (List.mem_of_mem_drop hc)
theorem near_cut (a : Nat) : Tm (2 * n + 20) (2 * g) (cutS t none (some (a : Nat))) := (h.cut _ _).up (by omega) (by omega)
end
def oddB (x : PySem.Str) : Bool := decide (x.length ≤ 15) && decide (W dg x ≤ 3) && (tl x).all fun c => decide (c < 0x110000)
theorem odd_of {x : PySem.Str} (h : oddB x = true) : Odd x := by
  unfold oddB at h
  simp only [Bool.and_eq_true, decide_eq_true_eq, List.all_eq_true] at h
  exact ⟨h.1.1, h.1.2, h.2⟩
end DK
/-! Sets of texts: one is made of a list, its members come sorted. -/
namespace TX
open PySem PySem.Spec PyProof.Rows L2
/-- a text in a set, with its hash -/
def Gt (P : Program) (w : World) (e : Int × Value) : Prop := ∃ (x : PySem.Str) (tk : Tok), e.2 = .str x tk ∧ e.1 = (PySem.strKind P w).hash x
def kt (e : Int × Value) : PySem.Str := strOf e.2
/-- the set at a has just the texts of xs -/
def SX (P : Program) (w : World) (h : Heap) (a : Addr) (xs : List PySem.Str) : Prop := ∃ o es ep t,
  (h.get? a = some o ∧ o.ExactSet ∧ o.data = .set es ep t) ∧ ((∀ e ∈ es.toList, Gt P w e) ∧ (es.toList.map kt).Nodup ∧ ∀ x, x ∈ xs ↔ x ∈ es.toList.map kt) ∧
  (es.size < scanBound ∧ t.fits es.size = true ∧ es.size ≤ xs.length) ∧ Ris t.place.toList ∧ (w.params.followText "set-order" = true ∨ t.led = true)
section
variable {P : Program} {w : World} {h h' : Heap} {a : Addr} {xs : List PySem.Str}
theorem SX.keep (R : SX P w h a xs) (k : ∀ o, h.get? a = some o → h'.get? a = some o) : SX P w h' a xs := by
  obtain ⟨o, es, ep, t, ⟨ho, r⟩, q⟩ := R
  exact ⟨o, es, ep, t, ⟨k o ho, r⟩, q⟩
theorem SX.alike {ys : List PySem.Str} (R : SX P w h a xs) (k : ∀ x, x ∈ ys ↔ x ∈ xs) (hl : xs.length ≤ ys.length) : SX P w h a ys := by
  obtain ⟨o, es, ep, t, r, ⟨g, n, m⟩, ⟨q1, q2, q3⟩, z⟩ := R
  exact ⟨o, es, ep, t, r, ⟨g, n, fun x => (k x).trans (m x)⟩, ⟨q1, q2, Nat.le_trans q3 hl⟩, z⟩
theorem gt_is {e : Int × Value} (g : Gt P w e) (x : PySem.Str) : (PySem.strKind P w).is x e.2 = true ↔ kt e = x := by
  obtain ⟨y, tk, h1, _⟩ := g
  unfold kt
  rw [h1]
  refine ⟨fun z => ?_, fun z => ?_⟩
  · exact (PySem.strKind P w).inj (.str y tk) y x (strKind_is P w y tk) z
  · have z' : y = x := z
    rw [← z']
    exact strKind_is P w y tk
theorem gt_elems {l : List (Int × Value)} (g : ∀ e ∈ l, Gt P w e) : ElemsOf (PySem.strKind P w) l := fun e he => by
  obtain ⟨x, tk, h1, h2⟩ := g e he
  exact ⟨⟨x, (gt_is (g e he) x).2 (by unfold kt; rw [h1]; rfl), h2⟩, by rw [h1] <;> rfl⟩
theorem gt_mem {l : List (Int × Value)} (g : ∀ e ∈ l, Gt P w e) (x : PySem.Str) : x ∈ l.map kt ↔ ∃ e ∈ l, (PySem.strKind P w).is x e.2 = true := by
  refine ⟨fun z => ?_, fun ⟨e, he, q⟩ => List.mem_map.mpr ⟨e, he, (gt_is (g e he) x).1 q⟩⟩
  obtain ⟨e, he, q⟩ := List.mem_map.mp z
  exact ⟨e, he, (gt_is (g e he) x).2 q⟩
theorem SX.fresh (ho : h.get? a = some { cls := .type "set", dict := none, data := .set #[] 0 (.fresh 0 0 (!w.params.followText "set-order")) }) : SX P w h a [] := by
  refine ⟨_, #[], 0, _, ⟨ho, ⟨rfl, rfl, rfl⟩, rfl⟩, ⟨fun e he => (by simp at he), (by simp), fun x => (by simp)⟩, ⟨(by decide), (by rfl), (by decide)⟩, List.Pairwise.nil, ?_⟩
  show _ ∨ (!w.params.followText "set-order") = true
  cases w.params.followText "set-order"
  · exact .inr rfl
  · exact .inl rfl
end
section
variable {P : Program} {w : World} {A : Around} {E : Value → Shared → Prop} {s : Shared} {a : Addr} {xs : List PySem.Str}
theorem put_tail {g : Bool → Sem Unit} (hg : ∀ (b : Bool) (s1 : Shared) (Z : Unit → Shared → Prop), Z () s1 → wpAny (model P w) A (g b) Z E s1) {o : Obj} {es es1 : Array (Int × Value)} {ep : Nat} {t t2 : SetTable} {ys : List PySem.Str}
    (ho : s.heap.get? a = some o) (hex : o.ExactSet) (hd : o.data = .set es ep t) (g1 : ∀ e ∈ es1.toList, Gt P w e) (n1 : (es1.toList.map kt).Nodup) (m1 : ∀ x, x ∈ ys ↔ x ∈ es1.toList.map kt)
    (hb : es1.size < scanBound) (hf : t2.fits es1.size = true) (hy : es1.size ≤ ys.length) (hr : Ris t2.place.toList) (hl : w.params.followText "set-order" = true ∨ t2.led = true) {dm : Bool} {R : Option Bool → Shared → Prop}
    (hR : ∀ h', Heap.SameBut a s.heap h' → SX P w h' a ys → R (some true) { s with heap := h' }) :
    wpAny (model P w) A (do
      storeSet a es1 t2
      if (!dm && t2.tooFull) = true then do
          g (relayAll t2 es1 (SetTable.grown es1.size)).2.2
          storeSet a (relayAll t2 es1 (SetTable.grown es1.size)).1 (relayAll t2 es1 (SetTable.grown es1.size)).2.1
          pure (some true)
        else pure (some true)) R E s := by
  refine wpAny_bind (wpAny_storeSet_of ho hd ?_ (fits_of_scanBound hb))
  have o1 := store_at (es' := es1) (t' := t2) ho hd
  have b1 := Heap.SameBut.update s.heap a (Obj.putSet es1 t2)
  split
  · have p3 := relayAll_perm t2 es1 (SetTable.grown es1.size)
    have f3 := relayAll_fits t2 es1 (SetTable.grown es1.size)
    have r3 := relayAll_ris t2 es1 (SetTable.grown es1.size)
    have l3 := relayAll_led t2 es1 (SetTable.grown es1.size)
    generalize relayAll t2 es1 (SetTable.grown es1.size) = Z at p3 f3 r3 l3 ⊢
    obtain ⟨es2, t3, gave⟩ := Z
    dsimp only at p3 f3 r3 l3 ⊢
    have z : es2.size = es1.size := by rw [← Array.length_toList, p3.length_eq, Array.length_toList]
    refine wpAny_bind (hg _ _ _ (wpAny_bind (wpAny_storeSet_of o1 rfl ?_ (fits_of_scanBound (by rw [z]; exact hb)))))
    refine wpAny_pure (hR _ (b1.trans (Heap.SameBut.update _ a _)) ⟨_, es2, _, t3, ⟨store_at (es' := es2) (t' := t3) o1 rfl, hex, rfl⟩, ⟨fun e he => g1 e (p3.mem_iff.mp he), (p3.map kt).nodup_iff.mpr n1, fun x => (m1 x).trans (p3.map kt).mem_iff.symm⟩,
      ⟨by rw [z]; exact hb, f3, by rw [z]; exact hy⟩, r3, hl.imp id fun q => by rw [l3]; exact q⟩)
  · exact wpAny_pure (hR _ b1 ⟨_, es1, _, t2, ⟨o1, hex, rfl⟩, ⟨g1, n1, m1⟩, ⟨hb, hf, hy⟩, hr, hl⟩)
/-- one text more -/
theorem add_hashed {x : PySem.Str} {tk : Tok} {Q : Bool → Shared → Prop} (R : SX P w s.heap a xs) (room : xs.length + 1 < scanBound)
    (hQ : ∀ (b : Bool) h', Heap.SameBut a s.heap h' → SX P w h' a (xs ++ [x]) → Q b { s with heap := h' }) : wpAny (model P w) A (setAddHashed a (.str x tk) ((PySem.strKind P w).hash x)) Q E s := by
  have R0 := R
  obtain ⟨o, es, ep, t, ⟨ho, hex, hd⟩, ⟨g, nd, hm⟩, ⟨hb, hf, hn⟩, hr, hl⟩ := R
  have hkey : (PySem.strKind P w).is x (.str x tk) = true := strKind_is P w x tk
  have hsc : (Value.str x tk).scannable = true := rfl
  have hel : ElemsOf (PySem.strKind P w) es.toList := gt_elems g
  unfold setAddHashed setAddHashedIn
  refine wpAny_holding (wpAny_bind (wpAny_setState_of ho hd hf ?_))
  dsimp only
  rw [byScan_of hsc hb hel]
  simp only [↓reduceIte]
  unfold setAddByScan
  refine wpAny_bind (wpAny_bind (wpAny_rule (wpAny_bind (wpAny_setScan_of hkey ho hd hf hel ?_))))
  cases hfi : List.findIdx? (fun e => (PySem.strKind P w).is x e.2) es.toList with
  | some j =>
    dsimp only
    obtain ⟨hj, pj, _⟩ := List.findIdx?_eq_some_iff_getElem.mp hfi
    have hx : x ∈ xs := (hm x).2 ((gt_mem g x).2 ⟨es.toList[j], List.getElem_mem hj, pj⟩)
    refine wpAny_pure (wpAny_pure (hQ _ s.heap (Heap.SameBut.refl a s.heap) (R0.alike (fun y => ?_) (by simp))))
    rw [List.mem_append, List.mem_singleton]
    exact ⟨fun z => z.elim id fun e => e ▸ hx, .inl⟩
  | none =>
    dsimp only
    have hnk : x ∉ es.toList.map kt := fun z => by
      obtain ⟨e, he, q⟩ := (gt_mem g x).1 z
      have c := List.findIdx?_eq_none_iff.mp hfi e he
      rw [q] at c
      cases c
    have hgw : ∀ (b : Bool) {s1 : Shared} {Z : Unit → Shared → Prop}, Z () s1 → wpAny (model P w) A (match b with | true => rule "set.scan.the-table-gave-way" | false => pure ()) Z E s1 := fun b s1 Z q => by
      cases b
      · exact wpAny_pure q
      · exact wpAny_rule q
    have pm := layNew_perm t es ((PySem.strKind P w).hash x) (.str x tk)
    have hf1 := layNew_fits t es ((PySem.strKind P w).hash x) (.str x tk)
    have hr1 := layNew_ris t es ((PySem.strKind P w).hash x) (.str x tk) hr
    have hl1 := layNew_led t es ((PySem.strKind P w).hash x) (.str x tk)
    generalize layNew t es ((PySem.strKind P w).hash x) (.str x tk) = Z at pm hf1 hr1 hl1 ⊢
    obtain ⟨es1, t1, dm, gave⟩ := Z
    dsimp only at pm hf1 hr1 hl1 ⊢
    rw [Array.toList_push] at pm
    have pc : es1.toList.Perm (((PySem.strKind P w).hash x, Value.str x tk) :: es.toList) := pm.trans (List.perm_append_singleton _ _)
    have pk : (es1.toList.map kt).Perm (x :: es.toList.map kt) := pc.map kt
    have g1 : ∀ e ∈ es1.toList, Gt P w e := fun e he => by
      rcases List.mem_cons.mp (pc.mem_iff.mp he) with z | z
      · exact ⟨x, tk, by rw [z], by rw [z]⟩
      · exact g e z
    have n1 : (es1.toList.map kt).Nodup := pk.nodup_iff.mpr (List.nodup_cons.mpr ⟨hnk, nd⟩)
    have m1 : ∀ y, y ∈ xs ++ [x] ↔ y ∈ es1.toList.map kt := fun y => by
      rw [pk.mem_iff, List.mem_cons, List.mem_append, List.mem_singleton, hm y]
      exact Or.comm
    have hsz : es1.size = es.size + 1 := by rw [← Array.length_toList, pc.length_eq, List.length_cons, Array.length_toList]
    have hy : es1.size ≤ (xs ++ [x]).length := by rw [hsz, List.length_append]; exact Nat.succ_le_succ hn
    have hb1 : es1.size < scanBound := by rw [hsz]; omega
    have hled : w.params.followText "set-order" = true ∨ t1.led = true := hl.imp id fun z => by rw [hl1]; exact z
    refine wpAny_bind (hgw _ ?_)
    split
    · refine wpAny_bind ?_
      rw [hashByValue_scannable 8 hsc]
      refine wpAny_pure (put_tail ?_ ho hex hd g1 n1 m1 hb1 ?_ hy ?_ ?_ ?_)
      · intro b s1 Z q
        cases b <;> first | exact wpAny_pure q | exact wpAny_rule q
      · first | (split <;> first | exact hf1 | exact SetTable.fits_plain_off hf1) | exact hf1
      · first | (split <;> exact hr1) | exact hr1
      · first | (split <;> exact hled) | exact hled
      · intro h' sb r
        exact wpAny_pure (hQ _ h' sb r)
    · refine wpAny_bind (wpAny_pure ?_)
      simp only [↓reduceIte]
      refine put_tail ?_ ho hex hd g1 n1 m1 hb1 hf1 hy hr1 hled ?_
      · intro b s1 Z q
        cases b <;> first | exact wpAny_pure q | exact wpAny_rule q
      · intro h' sb r
        exact wpAny_pure (hQ _ h' sb r)
end
end TX
namespace TX
open PySem PySem.Spec PyProof.Rows L2
section
variable {P : Program} {w : World} {A : Around} {E : Value → Shared → Prop} {s : Shared}
/-- the loop that puts all items of a list in -/
theorem fill_loop {I : Addr} {fp wr : List Addr} {G : Array GenState → Array GenState → Prop} {n : Nat} {Pv : Nat → Value → Prop} {St : Nat → Shared → Prop} {R : Result → Shared → Prop}
    (W : WalksS P w A.in1 I fp wr G n Pv St) (S : Addr) (hSf : S ∉ fp) (xs : List PySem.Str) (hn : n = xs.length) (few : xs.length + 1 < scanBound) (hval : ∀ i v, Pv i v → ∃ x t, xs[i]? = some x ∧ v = .str x t) :
    ∀ (k i : Nat) (s : Shared), n - i = k → i ≤ n → St i s → SX P w s.heap S (xs.take i) → (∀ s', Moved (S :: wr) G s s' → SX P w s'.heap S xs → R (.ok (.ret .none)) s') →
      codeAny (model P w) A (.builtin "set.update.loop" ⟨[.ref S, .ref I], []⟩) R s := by
  have hSw : S ∉ wr := fun h => hSf (W.sub _ h)
  have more : ∀ b ∈ wr, b ∈ S :: wr := fun b hb => List.mem_cons_of_mem _ hb
  intro k
  induction k with
  | zero =>
    intro i s hk hi hst hS hR
    have e : xs.take i = xs := List.take_of_length_le (by omega)
    rw [e] at hS
    have hin : i = n := by omega
    subst hin
    refine codeAny_builtin F.entry_set_update_loop ?_; rw [Around.under_plainId F.plain_set_update_loop _]; show wpAny _ A.in1 (pyNext (.ref I) >>= _) _ _ s
    refine wpAny_bind (W.done s _ _ hst fun s' hm => ?_)
    exact wpAny_pure (hR s' (hm.mono more) (hS.keep fun o e => hm.heap S o hSw e))
  | succ k ih =>
    intro i s hk hi hst hS hR
    have hlt : i < n := by omega
    refine codeAny_builtin F.entry_set_update_loop ?_; rw [Around.under_plainId F.plain_set_update_loop _]; show wpAny _ A.in1 (pyNext (.ref I) >>= _) _ _ s
    refine wpAny_bind (W.item i s _ _ hlt hst fun v s' hP hst' hm => ?_)
    obtain ⟨x, t, hx, rfl⟩ := hval i v hP
    have hS' : SX P w s'.heap S (xs.take i) := hS.keep fun o e => hm.heap S o hSw e
    show wpAny _ A.in1 (holding [Value.str x t] (setAdd S (.str x t)) >>= _) _ _ s'
    unfold setAdd
    refine wpAny_bind (wpAny_holding (wpAny_holding (wpAny_bind ((PySem.strKind P w).pyHash (k := x) (strKind_is _ _ _ _) ?_))))
    refine add_hashed (s := { s' with toks := s'.toks + 1 }) hS' (by rw [List.length_take]; omega) fun b h' hsb hS2 => ?_
    have hS3 : SX P w h' S (xs.take (i + 1)) := by
      rw [List.take_add_one, hx]
      exact hS2
    refine wpAny_pure ⟨plainId_quiet F.plain_set_update_loop _, ih (i + 1) _ (by omega) hlt (W.frame _ s' _ _ hst' (Nat.le_succ _) fun b hb o e => ?_) hS3 fun s2 hm2 hS4 => ?_⟩
    · exact (hsb.2 b fun h : b = S => hSf (by rw [← h]; exact hb)).trans e
    · refine hR s2 (Moved.trans W.gtrans ((hm.mono more).then_heap (Nat.le_succ _) fun b o hb e => ?_) hm2) hS4
      exact (hsb.2 b fun h : b = S => hb (by rw [h]; exact List.mem_cons_self)).trans e
def S0 (w : World) : Obj := { cls := .type "set", dict := none, data := .set #[] 0 (.fresh 0 0 (!w.params.followText "set-order")) }
/-- set(xs), xs a list of texts -/
theorem set_of {l : Addr} {items : Array Value} (xs : List PySem.Str) {Q : Value → Shared → Prop} (hh : A.handled = none) (hl : s.heap.IsList l items) (hit : StrsAre items.toList xs) (few : xs.length + 1 < scanBound)
    (h : ∀ (h' : Heap) (tk : Nat), SX P w h' s.heap.objs.size xs → (∀ b o, s.heap.get? b = some o → h'.get? b = some o) → Q (.ref s.heap.objs.size) { s with heap := h', toks := tk }) :
    wpAny (model P w) A (call (.type "set") [.ref l]) Q E s := by
  have hisz : items.size = xs.length := by rw [← StrsAre.len_eq hit, Array.length_toList]
  obtain ⟨c, tl, hmro⟩ := F.called_set.mro
  have hmade := F.called_set.made; have hsub := F.called_set.sub
  refine wpAny_call (codeAny_of_tree ?_); show wpAny _ _ (callAny (.type "set") _) _ _ _
  refine wpAny_pure ⟨Code.quiet_builtin _ (by decide +kernel), codeAny_builtin F.entry_type_call ?_⟩; rw [Around.under_plain (weight_type_call_type "set" [.ref l] []) rfl]
  have h1 := F.called_set.notType; have h2 := F.called_set.canCreate; have hct := F.typeCall_set_1 (.ref l)
  repeat (any_goals (first | assumption | wp_step))
  refine codeAny_mono (code_set_led1 (.ref l) (E := E) (Q₁ := fun obj z => obj = .ref s.heap.objs.size ∧ z = { s with heap := s.heap.push (S0 w) }) ⟨rfl, rfl⟩) fun r z hr => ?_
  cases r with
  | error e => exact hr
  | ok fl =>
    cases fl with
    | ret obj =>
      obtain ⟨rfl, rfl⟩ := hr
      have hS : (s.heap.push (S0 w)).get? s.heap.objs.size = some (S0 w) := Heap.get?_push_size _ rfl
      have hT : Shared.TypeIs { s with heap := s.heap.push (S0 w) } (.ref s.heap.objs.size) "set" := ⟨_, hS, rfl⟩
      have hli := F.called_set.init.lookup; have hbi := F.called_set.init.bind (.ref s.heap.objs.size)
      repeat (any_goals (first | assumption | wp_step))
      refine codeAny_mono (codeAny_call_builtin (R := wants (fun r z => r = .none ∧ ∃ h' tk, z = { s with heap := h', toks := tk } ∧ SX P w h' s.heap.objs.size xs ∧ (∀ b o, s.heap.get? b = some o → h'.get? b = some o)) E)
        F.called_set.init.plain F.entry_set_init (check_set_init_1 hT ?_)) fun r2 z hr2 => ?_
      · obtain ⟨ol, hol, hcl, nl, hdl⟩ := hl
        obtain ⟨ocls, odict, odata, oslots⟩ := ol
        simp only at hcl hdl
        subst hcl; subst hdl
        have hol' : (s.heap.push (S0 w)).get? l = some { cls := .type "list", dict := odict, data := .seq items nl, slots := oslots } := Heap.get?_push_of_some _ hol
        have hsls := F.sub_list_set; have hslf := F.sub_list_frozenset
        have hne : (Value.type "list" == Value.type "dict") = false := by decide
        have hl1 : (s.heap.push (S0 w)).IsList l items := ⟨_, hol', rfl, nl, rfl⟩
        unfold Builtin.«set.__init__» noKeywords Builtin.Frozenset.updateFrom
        generalize hPI : pyIter = PI
        wp_walk
        subst hPI
        refine wpAny_pyIter_list hl1 (wpAny_bind (wpAny_runValue ?_))
        have hlS : l < s.heap.objs.size := Heap.lt_size hol
        have hh3 : A.in1.in1.in1.handled = none := by simp [hh]
        have hsz : (s.heap.push (S0 w)).objs.size = s.heap.objs.size + 1 := Heap.size_push ..
        have hneI : l ≠ (s.heap.push (S0 w)).objs.size := hsz ▸ Nat.ne_of_lt (Nat.lt_succ_of_lt hlS)
        have hSf : s.heap.objs.size ∉ [(s.heap.push (S0 w)).objs.size, l] := by
          rw [hsz]; simp only [List.mem_cons, List.mem_singleton, List.not_mem_nil, or_false, not_or]; exact ⟨Nat.ne_of_lt (Nat.lt_succ_self _), Nat.ne_of_gt hlS⟩
        have hval : ∀ (i : Nat) (v : Value), items[i]? = some v → ∃ x t, xs[i]? = some x ∧ v = .str x t := fun i v hv => by
          obtain ⟨t, e⟩ := SS.strs_at hit i v (by rw [Array.getElem?_toList]; exact hv)
          have hi : i < xs.length := by rw [← hisz]; exact (Array.getElem?_eq_some_iff.mp hv).1
          exact ⟨xs.getD i Str.empty, t, by rw [List.getD_eq_getElem?_getD, List.getElem?_eq_getElem hi]; rfl, e⟩
        refine fill_loop ((Walks.list hh3 _ l hneI items).toS) s.heap.objs.size hSf xs hisz few hval (items.size - 0) 0 _ (by omega) (Nat.zero_le _) ⟨⟨_, Heap.get?_push_size _ rfl, rfl, rfl⟩, (hl1.push _)⟩ ?hS0 ?hR
        case hS0 => exact SX.fresh (Heap.get?_push_of_some _ hS)
        case hR =>
          intro s' hm hS'
          obtain ⟨h', g2, d', tk', os'⟩ := s'
          have eg : g2 = s.gens := hm.gens
          have ed : d' = s.drawn := hm.drawn
          have eo : os' = s.os := hm.os
          subst eg; subst ed; subst eo
          show wpAny _ _ _ _ _ _
          refine wpAny_pure ?_
          show wpAny _ _ (ret Value.none) _ _ _
          refine wpAny_pure ⟨rfl, h', tk', rfl, hS', fun b o e => ?_⟩
          have hlt := Heap.lt_size e
          have n1 : b ≠ s.heap.objs.size := Nat.ne_of_lt hlt
          have n2 : b ≠ (s.heap.push (S0 w)).objs.size := hsz ▸ Nat.ne_of_lt (Nat.lt_succ_of_lt hlt)
          exact hm.heap b o (by simp only [List.mem_cons, List.mem_singleton, List.not_mem_nil, or_false, not_or]; exact ⟨n1, n2⟩) (Heap.get?_push_of_some _ (Heap.get?_push_of_some _ e))
      · cases r2 with
        | error e => exact hr2
        | ok fl2 =>
          cases fl2 with
          | ret r =>
            obtain ⟨rfl, h', tk, rfl, hS', hk⟩ := hr2
            repeat (any_goals (first | assumption | wp_step))
            exact h _ _ hS' hk
          | _ => exact hr2.elim
    | _ => exact hr.elim
/-- what is collected, sorted -/
theorem sorted_of {a : Addr} {xs : List PySem.Str} {Q : Value → Shared → Prop} (R : SX P w s.heap a xs) (hh : A.handled = none) (h64 : xs.length < 64)
    (hQ : ∀ s' p (out : Array Value) (c : Nat) (ys : List PySem.Str), (∀ b o, s.heap.get? b = some o → s'.heap.get? b = some o) → s'.gens = s.gens → s'.os = s.os → s.heap.objs.size ≤ p →
      s'.heap.get? p = some (seqObj "list" out c) → StrsAre out.toList ys → sortedS ys = true → ys.Nodup → (∀ x, x ∈ ys ↔ x ∈ xs) → ys.length ≤ xs.length → Q (.ref p) s') : wpAny (model P w) A (call (.builtin "sorted") [.ref a]) Q E s := by
  obtain ⟨o, es, ep, t, ⟨ho, hex, hd⟩, ⟨g, nd, hm⟩, ⟨hb, hf, hn⟩, hr, hl⟩ := R
  refine Calls.call_function_entry kind_sorted plain_sorted entry_sorted (args_sorted1 _) ?_; unfold Builtin.«sorted»; refine wpAny_bind (m := checkCount "sorted" 1 1 _) (wpAny_pure ?_)
  refine wpAny_bind (collect_set (A := A.in1) hh ⟨o, ho, hex.1, hd⟩ hf hb hr hl fun s1 vs k1 hz g1 o1 pm => ?_)
  have hvl : vs.length = es.size := by rw [pm.length_eq, List.length_map, Array.length_toList]
  have hI : StrsAre vs (vs.map strOf) := strsAre_map vs fun v hv => by
    obtain ⟨e, he, q⟩ := List.mem_map.mp (pm.mem_iff.mp hv)
    obtain ⟨x, tk, h1, _⟩ := g e he
    exact ⟨x, tk, by rw [← q]; exact h1⟩
  have pk : (vs.map strOf).Perm (es.toList.map kt) := by
    have q := pm.map strOf
    rw [List.map_map] at q
    exact q
  refine wpAny_bind (wpAny_newList ?_ (by rw [hvl, sizeLine_eq]; omega))
  have hoL : (s1.heap.push (seqObj "list" vs.toArray 0)).get? s1.heap.objs.size = some (seqObj "list" vs.toArray 0) := Heap.get?_push_size _ rfl
  refine wpAny_bind (wpAny_holding (wpAny_call_entry slot_list_sort ⟨_, hoL, rfl⟩ entry_list_sort (list_sort_treeK strKind_oneLt hoL hI.keysOf (fun v1 v2 rest e => keyKind_strs (by rw [← e]; exact hI)) (by rw [hvl]; omega) fun st hp hs => ⟨_, rfl, ?_⟩) (args_list_sort _)))
  obtain ⟨ys, a1, a2, a3⟩ := sorted_out_str hI hp hs
  obtain ⟨c, hc⟩ := sortedHeap_at (vs := vs) (out := (arrOf st).map (·.2)) hoL
  have pn : ys.Perm (es.toList.map kt) := a2.trans pk
  refine wpAny_pure ⟨_, rfl, hQ _ s1.heap.objs.size _ c ys (fun b u e => ?_) g1 o1 hz hc a1 a3 (pn.nodup_iff.mpr nd) (fun x => by rw [pn.mem_iff, ← hm x]) ?_⟩
  · have q := k1 b u e
    have hlt := Heap.lt_size q
    exact (sortedHeap_old (Nat.ne_of_lt hlt) (by rw [size_push']; exact Nat.lt_succ_of_lt hlt)).trans (Heap.get?_push_of_some _ q)
  · rw [pn.length_eq, List.length_map, Array.length_toList]; exact hn
end
end TX
/-! sorted(set(texts)), and that it is one list only. -/
namespace TX
open PySem PySem.Spec PyProof.Rows L2
theorem rising_pair : ∀ (l : List PySem.Str) (p : PySem.Str), risingS p l = true → (p :: l).Pairwise fun a b => a.cps.toList ≤ b.cps.toList
  | [], p, _ => List.pairwise_singleton _ _
  | x :: r, p, h => by
    have h' : (!ltCps x.cps.toList p.cps.toList && risingS x r) = true := h
    rw [Bool.and_eq_true, ltCps_eq] at h'
    obtain ⟨h1, h2⟩ := h'
    have q := rising_pair r x h2
    have px : p.cps.toList ≤ x.cps.toList := by
      intro z
      rw [show decide (x.cps.toList < p.cps.toList) = true from decide_eq_true z] at h1
      cases h1
    refine List.pairwise_cons.mpr ⟨fun y hy => ?_, q⟩
    rcases List.mem_cons.mp hy with e | e
    · exact e ▸ px
    · exact List.le_trans px ((List.pairwise_cons.mp q).1 y e)
theorem sorted_pair {l : List PySem.Str} (h : sortedS l = true) : l.Pairwise fun a b => a.cps.toList ≤ b.cps.toList := by
  cases l with
  | nil => exact List.Pairwise.nil
  | cons x r => exact rising_pair r x h
theorem str_ext {a b : PySem.Str} (h : a.cps.toList = b.cps.toList) : a = b := by
  cases a; cases b
  simpa using h
/-- an ascending list without doubles -/
def Asc (l : List PySem.Str) : Prop := sortedS l = true ∧ l.Nodup
theorem Asc.one {l m : List PySem.Str} (a : Asc l) (b : Asc m) (h : ∀ x, x ∈ l ↔ x ∈ m) : l = m :=
  List.Perm.eq_of_pairwise (le := fun a b : PySem.Str => a.cps.toList ≤ b.cps.toList) (fun x y _ _ p q => str_ext (List.le_antisymm p q)) (sorted_pair a.1) (sorted_pair b.1) ((List.perm_ext_iff_of_nodup a.2 b.2).mpr h)
theorem Asc.perm {l m : List PySem.Str} (a : Asc l) (b : sortedS m = true) (h : m.Perm l) : m = l := Asc.one ⟨b, h.nodup_iff.mpr a.2⟩ a fun x => h.mem_iff
theorem sorted_perm {l m : List PySem.Str} (a : sortedS l = true) (b : sortedS m = true) (h : l.Perm m) : l = m :=
  List.Perm.eq_of_pairwise (le := fun a b : PySem.Str => a.cps.toList ≤ b.cps.toList) (fun x y _ _ p q => str_ext (List.le_antisymm p q)) (sorted_pair a) (sorted_pair b) h
/-- the set, for the abstract heap -/
def SXO (P : Program) (w : World) (a : Addr) (xs : List PySem.Str) : HO := .ext fun h => SX P w h a xs
theorem sxo_new {P : Program} {w : World} {H : Hp} {h : Heap} {a : Addr} {xs : List PySem.Str} (R : SX P w h a xs) : ObjOk P w H h a (SXO P w a xs) := by
  have ⟨o, _, _, _, ⟨ho, _⟩, _⟩ := R
  exact ⟨R, ⟨o, ho⟩, fun h1 h2 p k => SX.keep p k⟩
section
variable {X : Cx}
theorem cr_setX (hc : X.calm = true) : CallR X (.type "set") (fun vs H Q => ∃ (l : Addr) (xs : List PySem.Str), vs = [.ref l] ∧ SqL X.K H l (xs.map V.str) ∧ xs.length < 64 ∧ ∀ a, H a = none → Q (.ref a) (upd H a (SXO X.prog X.w a xs))) := by
  intro pins s σ H vs us Q I r h
  obtain ⟨l, xs, rfl, hl, few, q⟩ := h
  rw [Vals.ref1 r]
  obtain ⟨its, rv, pl, hz⟩ := I.list hl
  have hn : H s.heap.objs.size = none := I.hok.fresh (Nat.le_refl _)
  refine set_of (P := X.prog) (w := X.w) xs (I.ok.hd hc) pl.isList (by simpa using rv.strs) (by unfold scanBound; omega) fun h' tk R k => ?_
  exact ⟨.ref s.heap.objs.size, upd H s.heap.objs.size (SXO X.prog X.w s.heap.objs.size xs), I.laid (t' := tk) k (Nat.le_refl _) (sxo_new R), rfl, q _ hn⟩
theorem cr_sortedX (hc : X.calm = true) : CallR X (.builtin "sorted") (fun vs H Q => ∃ (a : Addr) (xs : List PySem.Str), vs = [.ref a] ∧ H a = some (SXO X.prog X.w a xs) ∧ xs.length < 64 ∧
    ∀ ys p, Asc ys → (∀ x, x ∈ ys ↔ x ∈ xs) → ys.length ≤ xs.length → H p = none → Q (.ref p) (upd H p (.lst (ys.map V.str)))) := by
  intro pins s σ H vs us Q I r h
  obtain ⟨a, xs, rfl, ha, few, q⟩ := h
  have R0 : SX X.prog X.w s.heap a xs := (I.hok a _ ha).1
  rw [Vals.ref1 r]
  refine sorted_of R0 (I.ok.hd hc) few fun s' p out c ys k g o hp hg hout h1 h2 h3 h4 => ?_
  have hlen : (ys.map V.str).length ≤ sizeLine := by rw [List.length_map, sizeLine_eq]; omega
  have hn : H p = none := I.hok.fresh hp
  have J : Inv X pins σ (upd H p (.lst (ys.map V.str))) { s with heap := s'.heap, gens := s'.gens, drawn := s'.drawn, toks := s'.toks } :=
    I.call (ch := []) (Un.laid k hp hn) (I.hok.laid k hp ⟨hlen, out.toList, c, vals_of_strs hout, hg⟩) (by rw [g]; exact I.bare) (fun _ z => nomatch z)
  have e : s' = { s with heap := s'.heap, gens := s'.gens, drawn := s'.drawn, toks := s'.toks } := by
    cases s'; cases s; cases o; rfl
  rw [e]
  exact ⟨.ref p, _, J, rfl, q ys p ⟨h1, h2⟩ h3 h4 hn⟩
end
end TX
/-! Manifests, purely; lines of texts near one. -/
namespace DK
open PySem PySem.Spec PyProof.Rows L2 TL RX
def ascB (fs : List PySem.Str) : List Bool := List.zipWith (fun a b => decide (a.cps.toList < b.cps.toList)) fs fs.tail
theorem asc_len (fs : List PySem.Str) : (ascB fs).length = fs.length - 1 := by
  unfold ascB
  rw [List.length_zipWith, List.length_tail]
  omega
theorem asc_iff : ∀ fs : List PySem.Str, (ascB fs).all id = true ↔ fs.Pairwise fun a b => a.cps.toList < b.cps.toList
  | [] => by simp [ascB]
  | [a] => by simp [ascB]
  | a :: b :: r => by
    have ih := asc_iff (b :: r)
    have e : ascB (a :: b :: r) = decide (a.cps.toList < b.cps.toList) :: ascB (b :: r) := rfl
    rw [e, List.all_cons, Bool.and_eq_true, ih]
    refine ⟨fun ⟨h1, h2⟩ => ?_, fun h => ?_⟩
    · have h1' : a.cps.toList < b.cps.toList := of_decide_eq_true h1
      refine List.Pairwise.cons (fun c hc => ?_) h2
      rcases List.mem_cons.mp hc with z | z
      · rw [z]; exact h1'
      · exact List.lt_trans h1' ((List.pairwise_cons.mp h2).1 c z)
    · obtain ⟨h1, h2⟩ := List.pairwise_cons.mp h
      exact ⟨decide_eq_true (h1 b List.mem_cons_self), h2⟩
theorem pair_rising : ∀ (r : List PySem.Str) (x : PySem.Str), (x :: r).Pairwise (fun a b => a.cps.toList < b.cps.toList) → risingS x r = true
  | [], _, _ => rfl
  | y :: r, x, h => by
    obtain ⟨h1, h2⟩ := List.pairwise_cons.mp h
    have z : x.cps.toList < y.cps.toList := h1 y List.mem_cons_self
    have ih := pair_rising r y h2
    unfold risingS
    rw [ih]
    have z2 : ¬ y.cps.toList < x.cps.toList := fun q => List.lt_irrefl _ (List.lt_trans z q)
    rw [ltCps_eq, decide_eq_false z2]
    rfl
theorem asc_all (fs : List PySem.Str) : (ascB fs).all id = true ↔ TX.Asc fs := by
  rw [asc_iff]
  refine ⟨fun h => ⟨?_, ?_⟩, fun h => ?_⟩
  · cases fs with
    | nil => rfl
    | cons x r => exact pair_rising r x h
  · exact h.imp fun z e => by rw [e] at z; exact absurd z (List.lt_irrefl _)
  · have p1 := TX.sorted_pair h.1
    have p2 : fs.Pairwise (· ≠ ·) := h.2
    refine (p1.and p2).imp fun {a b} ⟨z1, z2⟩ => ?_
    by_cases q : a.cps.toList < b.cps.toList
    · exact q
    · exact absurd (TX.str_ext (List.le_antisymm z1 (List.not_lt.mp q))) z2
def ascD (fs : List PySem.Str) : Bool := (ascB fs).all id
def hd (ws : List PySem.Str) : PySem.Str := ws.headD ""
def entB : List PySem.Str → Bool
  | [p, s] => isPath p && isShelf s
  | _ => false
def lockM : List PySem.Str → Bool
  | [a, x] => decide (V.str a = V.str "lock") && (decide (V.str x = V.str "-") || isShelf x)
  | _ => false
theorem ent_two {ws : List PySem.Str} (h : entB ws = true) : ∃ p s, ws = [p, s] ∧ isPath p = true ∧ isShelf s = true := by
  match ws, h with
  | [p, s], h =>
    have h' : (isPath p && isShelf s) = true := h
    rw [Bool.and_eq_true] at h'
    exact ⟨p, s, rfl, h'.1, h'.2⟩
  | [], h => cases h
  | [_], h => cases h
  | _ :: _ :: _ :: _, h => cases h
theorem lockM_two {ws : List PySem.Str} (h : lockM ws = true) : ∃ a x, ws = [a, x] := by
  match ws, h with
  | [a, x], _ => exact ⟨a, x, rfl⟩
  | [], h => cases h
  | [_], h => cases h
  | _ :: _ :: _ :: _, h => cases h
def lkD (x : PySem.Str) : Dt := if V.str x = V.str "-" then .non else .str x
def mfD (m : Lg) : Dt := .tup [.tup (m.1.map wordsD), lkD m.2]
def headM (n : Nat) : PySem.Str := "entries " ++ num (n : Int)
def mfT (m : Lg) : PySem.Str := Txt.join Nl (headM m.1.length :: (m.1.map (Txt.join Bk) ++ ["lock " ++ m.2]))
def readRM (rest : List (List PySem.Str)) : Option Lg := if rest.dropLast.all entB = true ∧ ascD (rest.dropLast.map hd) = true ∧ lockM (rest.getLastD []) = true then some (rest.dropLast, (rest.getLastD []).getD 1 "") else none
def readGM (t : PySem.Str) : Option Lg := match rowsT t with
  | [] => none
  | first :: rest => if rest ≠ [] ∧ first = [("entries" : PySem.Str), num ((rest.length - 1 : Nat) : Int)] then readRM rest else none
def readDM (t : PySem.Str) : Dt := match readGM t with | some g => mfD g | none => .non
theorem head_lineM (l : PySem.Str) (n : Nat) : Txt.split l Bk = [("entries" : PySem.Str), num (n : Int)] ↔ l = headM n := by
  rw [two_words (by decide +kernel) (num_free n (.inl (by decide)))]
  unfold headM
  rw [show (("entries" : PySem.Str) ++ " " : PySem.Str) = "entries " from by decide +kernel]
/-! drawn manifests -/
def PTM : List PySem.Str := ["a", "a-b", "a/b", "app/doc", "b", "xxxxxxxxxxxxxxxxxxxx", "z9"]
def SHM : List PySem.Str := SHV ++ [("-" : PySem.Str)]
theorem ptm_ok : ∀ p ∈ PTM, isPath p = true ∧ (32 : Nat) ∉ tl p ∧ (10 : Nat) ∉ tl p ∧ p.length ≤ 22 ∧ W dg p ≤ 1 ∧ ∀ c ∈ tl p, c < 0x110000 := by decide +kernel
theorem shm_ok : ∀ p ∈ SHM, (V.str p = V.str "-" ∨ isShelf p = true) ∧ (32 : Nat) ∉ tl p ∧ (10 : Nat) ∉ tl p ∧ p.length ≤ 26 ∧ W dg p ≤ 19 ∧ ∀ c ∈ tl p, c < 0x110000 := by decide +kernel
theorem shv_plain : ∀ p ∈ SHV, ¬ V.str p = V.str "-" := by decide +kernel
def EnD (ws : List PySem.Str) : Prop := ∃ p ∈ PTM, ∃ s ∈ SHV, ws = [p, s]
structure MfD (g : Lg) : Prop where
  few : g.1.length ≤ 7
  st : ∀ ws ∈ g.1, EnD ws
  asc : TX.Asc (g.1.map hd)
  lk : g.2 ∈ SHM
theorem EnD.ok {ws : List PySem.Str} (h : EnD ws) : entB ws = true ∧ (∀ x ∈ ws, (32 : Nat) ∉ tl x ∧ (10 : Nat) ∉ tl x ∧ x.length ≤ 26 ∧ ∀ c ∈ tl x, c < 0x110000) ∧ ws.length ≤ 3 ∧ ws ≠ [] ∧ (ws.map (·.length)).sum ≤ 48 ∧ (ws.map (W dg)).sum ≤ 20 := by
  obtain ⟨p, hp, s, hs, rfl⟩ := h
  obtain ⟨a1, a2, a3, a4, a5, a6⟩ := ptm_ok p hp
  obtain ⟨c1, c2, c3, c4, c5, c6⟩ := shv_ok s hs
  refine ⟨?_, ?_, by simp, by simp, ?_, ?_⟩
  · show (isPath p && isShelf s) = true
    rw [a1, c1]; rfl
  · intro x hx
    simp only [List.mem_cons, List.not_mem_nil, or_false] at hx
    rcases hx with rfl | rfl
    · exact ⟨a2, a3, by omega, a6⟩
    · exact ⟨c2, c3, by omega, c6⟩
  · simp only [List.map_cons, List.map_nil, List.sum_cons, List.sum_nil]; omega
  · simp only [List.map_cons, List.map_nil, List.sum_cons, List.sum_nil]; omega
theorem MfD.gok {g : Lg} (h : MfD g) : GOk g := by
  refine ⟨by have := h.few; omega, fun ws hw => ?_, ?_⟩
  · obtain ⟨_, h2, h3, _⟩ := (h.st ws hw).ok
    exact ⟨h3, fun x hx => by have := (h2 x hx).2.2.1; omega⟩
  · have := (shm_ok g.2 h.lk).2.2.2.1
    omega
theorem head_fewM {n : Nat} (h : n ≤ 7) : (10 : Nat) ∉ tl (headM n) ∧ (headM n).length ≤ 9 ∧ W dg (headM n) ≤ 1 ∧ ∀ c ∈ tl (headM n), c < 0x110000 := by
  have : ∀ n ∈ [0, 1, 2, 3, 4, 5, 6, 7], (10 : Nat) ∉ tl (headM n) ∧ (headM n).length ≤ 9 ∧ W dg (headM n) ≤ 1 ∧ ∀ c ∈ tl (headM n), c < 0x110000 := by decide +kernel
  exact this n (by simp only [List.mem_cons, List.not_mem_nil, or_false]; omega)
theorem lock_lineM {s : PySem.Str} (h : s ∈ SHM) : (10 : Nat) ∉ tl ("lock " ++ s) ∧ ("lock " ++ s : PySem.Str).length ≤ 31 ∧ W dg ("lock " ++ s) ≤ 19 ∧ (∀ c ∈ tl ("lock " ++ s : PySem.Str), c < 0x110000) ∧ Txt.split ("lock " ++ s) Bk = [("lock" : PySem.Str), s] := by
  obtain ⟨c1, c2, c3, c4, c5, c6⟩ := shm_ok s h
  have k1 : ("lock " : PySem.Str).length = 5 := by decide +kernel
  have k2 : W dg "lock " = 0 := by decide +kernel
  have k3 : (10 : Nat) ∉ tl ("lock " : PySem.Str) := by decide +kernel
  have k4 : ∀ c ∈ tl ("lock " : PySem.Str), c < 0x110000 := by decide +kernel
  refine ⟨?_, by rw [strLen_append, k1]; omega, by rw [W_app, k2]; omega, fun c hc => ?_, ?_⟩
  · rw [tl_append, List.mem_append]
    exact fun z => z.elim k3 c3
  · rw [tl_append, List.mem_append] at hc
    exact hc.elim (k4 c) (c6 c)
  · refine (two_words (by decide +kernel) c2).mpr ?_
    rw [show (("lock" : PySem.Str) ++ " " : PySem.Str) = "lock " from by decide +kernel]
theorem ent_line {ws : List PySem.Str} (h : EnD ws) : (10 : Nat) ∉ tl (Txt.join Bk ws) ∧ (Txt.join Bk ws).length ≤ 51 ∧ W dg (Txt.join Bk ws) ≤ 20 ∧ (∀ c ∈ tl (Txt.join Bk ws), c < 0x110000) ∧ Txt.split (Txt.join Bk ws) Bk = ws := by
  obtain ⟨_, h2, h3, h4, h5, h6⟩ := h.ok
  refine ⟨fun m => ?_, ?_, ?_, fun c hc => ?_, (split_iff tl_bk (by decide +kernel) h4 fun p hp => (h2 p hp).1).mpr rfl⟩
  · rcases mem_join m with z | ⟨p, hp, z⟩
    · rw [tl_bk] at z; simp at z
    · exact (h2 p hp).2.1 z
  · have := join_len Bk ws
    have hb : Bk.length = 1 := by decide +kernel
    rw [hb] at this
    omega
  · have := (W_join (f := dg) Bk ws).1
    have hb : W dg Bk = 0 := by decide +kernel
    rw [hb] at this
    omega
  · rcases mem_join hc with z | ⟨p, hp, z⟩
    · rw [tl_bk] at z; simp at z; omega
    · exact (h2 p hp).2.2.2 c z
theorem MfD.split {g : Lg} (h : MfD g) : Txt.split (mfT g) Nl = headM g.1.length :: (g.1.map (Txt.join Bk) ++ ["lock " ++ g.2]) := by
  refine (split_iff tl_nl (by decide +kernel) (by simp) fun p hp => ?_).mpr rfl
  rcases List.mem_cons.mp hp with e | hp
  · rw [e]; exact (head_fewM h.few).1
  · rcases List.mem_append.mp hp with hp | hp
    · obtain ⟨ws, hw, rfl⟩ := List.mem_map.mp hp
      exact (ent_line (h.st ws hw)).1
    · rw [List.mem_singleton.mp hp]; exact (lock_lineM h.lk).1
theorem MfD.lines {g : Lg} (h : MfD g) : ∀ l ∈ Txt.split (mfT g) Nl, W dg l ≤ 20 := fun p hp => by
  rw [h.split] at hp
  rcases List.mem_cons.mp hp with e | hp
  · rw [e]; have := (head_fewM h.few).2.2.1; omega
  · rcases List.mem_append.mp hp with hp | hp
    · obtain ⟨ws, hw, rfl⟩ := List.mem_map.mp hp
      exact (ent_line (h.st ws hw)).2.2.1
    · rw [List.mem_singleton.mp hp]; have := (lock_lineM h.lk).2.2.1; omega
theorem MfD.rows {g : Lg} (h : MfD g) : rowsT (mfT g) = [("entries" : PySem.Str), num (g.1.length : Nat)] :: (g.1 ++ [[("lock" : PySem.Str), g.2]]) := by
  have e := h.split
  unfold rowsT
  rw [e, List.map_cons, (head_lineM (headM g.1.length) g.1.length).mpr rfl, List.map_append, List.map_map]
  have e2 : g.1.map ((fun l => Txt.split l Bk) ∘ Txt.join Bk) = g.1 := by
    have : ∀ L : List (List PySem.Str), (∀ ws ∈ L, EnD ws) → L.map ((fun l => Txt.split l Bk) ∘ Txt.join Bk) = L := by
      intro L
      induction L with
      | nil => intro _; rfl
      | cons a L ih =>
        intro hL
        rw [List.map_cons, ih fun ws hw => hL ws (List.mem_cons_of_mem _ hw)]
        show Txt.split (Txt.join Bk a) Bk :: L = _
        rw [(ent_line (hL a List.mem_cons_self)).2.2.2.2]
    exact this g.1 h.st
  rw [e2, List.map_cons, (lock_lineM h.lk).2.2.2.2]
  rfl
theorem MfD.read {g : Lg} (h : MfD g) : readDM (mfT g) = mfD g := by
  have e : readGM (mfT g) = some g := by
    unfold readGM
    rw [h.rows]
    show (if (g.1 ++ [[("lock" : PySem.Str), g.2]]) ≠ [] ∧ _ then _ else _) = _
    rw [if_pos ⟨by simp, by rw [List.length_append]; simp⟩]
    unfold readRM
    have e1 : (g.1 ++ [[("lock" : PySem.Str), g.2]]).dropLast = g.1 := by simp
    have e2 : (g.1 ++ [[("lock" : PySem.Str), g.2]]).getLastD [] = [("lock" : PySem.Str), g.2] := by rw [List.getLastD_eq_getLast?]; simp
    have e3 : lockM [("lock" : PySem.Str), g.2] = true := by
      show (decide (V.str "lock" = V.str "lock") && (decide (V.str g.2 = V.str "-") || isShelf g.2)) = true
      rcases (shm_ok g.2 h.lk).1 with z | z
      · rw [decide_eq_true z, decide_eq_true rfl]; rfl
      · rw [z, decide_eq_true rfl, Bool.or_true]; rfl
    rw [e1, e2, if_pos ⟨List.all_eq_true.mpr fun ws hw => (h.st ws hw).ok.1, (asc_all _).mpr h.asc, e3⟩]
    rfl
  unfold readDM
  rw [e]
/-- signs that end lines -/
def nw (c : Nat) : Nat := if c = 10 then 1 else 0
/-- its lines are few too -/
structure Tl (n g k : Nat) (x : PySem.Str) : Prop where
  t : Tm n g x
  l : W nw x ≤ k
theorem Tl.up {n g k n' g' k' : Nat} {x : PySem.Str} (h : Tl n g k x) (a : n ≤ n') (b : g ≤ g') (c : k ≤ k') : Tl n' g' k' x := ⟨h.t.up a b, Nat.le_trans h.l c⟩
theorem nw_nl : W nw Nl = 1 := by decide +kernel
theorem Tl.lines {n g k : Nat} {x : PySem.Str} (h : Tl n g k x) : ((Txt.split x Nl).map (W nw)).sum + (Txt.split x Nl).length ≤ k + 1 := by
  have w := W_split_ge (f := nw) x Nl
  rw [nw_nl, Nat.mul_one] at w
  have := h.l
  have : 1 ≤ (Txt.split x Nl).length := List.length_pos_iff.mpr (split_ne tl_nl (by decide +kernel))
  omega
theorem MfD.tm {g : Lg} (h : MfD g) : Tl 420 170 9 (mfT g) := by
  have hl := head_fewM h.few
  have kl := lock_lineM h.lk
  have few := h.few
  have ff : ∀ p : PySem.Str, (10 : Nat) ∉ tl p → W nw p = 0 := fun p hp => by
    unfold W
    have : ∀ l : List Nat, (10 : Nat) ∉ l → (l.map nw).sum = 0 := by
      intro l
      induction l with
      | nil => intro _; rfl
      | cons c l ih =>
        intro hc
        rw [List.map_cons, List.sum_cons, ih fun z => hc (List.mem_cons_of_mem _ z)]
        have : nw c = 0 := if_neg fun e => hc (by rw [e]; exact List.mem_cons_self)
        rw [this]
    exact this _ hp
  refine ⟨⟨?_, ?_, fun c hc => ?_⟩, ?_⟩
  · have j := join_len Nl (headM g.1.length :: (g.1.map (Txt.join Bk) ++ ["lock " ++ g.2]))
    have hb : Nl.length = 1 := by decide +kernel
    have s : ((g.1.map (Txt.join Bk)).map (·.length)).sum ≤ g.1.length * 51 := by
      rw [List.map_map]
      exact sum_leN fun ws hw => (ent_line (h.st ws hw)).2.1
    have m : g.1.length * 51 ≤ 7 * 51 := Nat.mul_le_mul_right _ few
    rw [List.map_cons, List.sum_cons, List.map_append, List.sum_append, List.length_cons, List.length_append, List.length_map, hb] at j
    simp only [List.map_cons, List.map_nil, List.sum_cons, List.sum_nil, List.length_cons, List.length_nil] at j
    show (Txt.join Nl _).length ≤ 420
    omega
  · have j := (W_join (f := dg) Nl (headM g.1.length :: (g.1.map (Txt.join Bk) ++ ["lock " ++ g.2]))).1
    have hb : W dg Nl = 0 := by decide +kernel
    have s : ((g.1.map (Txt.join Bk)).map (W dg)).sum ≤ g.1.length * 20 := by
      rw [List.map_map]
      exact sum_leN fun ws hw => (ent_line (h.st ws hw)).2.2.1
    have m : g.1.length * 20 ≤ 7 * 20 := Nat.mul_le_mul_right _ few
    rw [List.map_cons, List.sum_cons, List.map_append, List.sum_append, hb, Nat.mul_zero] at j
    simp only [List.map_cons, List.map_nil, List.sum_cons, List.sum_nil] at j
    show W dg (Txt.join Nl _) ≤ 170
    omega
  · rcases mem_join hc with z | ⟨p, hp, z⟩
    · rw [tl_nl] at z; simp at z; omega
    · rcases List.mem_cons.mp hp with e | hp
      · rw [e] at z; exact hl.2.2.2 c z
      · rcases List.mem_append.mp hp with hp | hp
        · obtain ⟨ws, hw, rfl⟩ := List.mem_map.mp hp
          exact (ent_line (h.st ws hw)).2.2.2.1 c z
        · rw [List.mem_singleton.mp hp] at z; exact kl.2.2.2.1 c z
  · have j := (W_join (f := nw) Nl (headM g.1.length :: (g.1.map (Txt.join Bk) ++ ["lock " ++ g.2]))).1
    have s : ((g.1.map (Txt.join Bk)).map (W nw)).sum ≤ g.1.length * 0 := by
      rw [List.map_map]
      exact sum_leN fun ws hw => Nat.le_of_eq (ff _ (ent_line (h.st ws hw)).1)
    rw [Nat.mul_zero] at s
    have e1 := ff _ hl.1
    have e2 := ff _ kl.1
    rw [List.map_cons, List.sum_cons, List.map_append, List.sum_append, List.length_cons, List.length_append, List.length_map, nw_nl] at j
    simp only [List.map_cons, List.map_nil, List.sum_cons, List.sum_nil, List.length_cons, List.length_nil] at j
    show W nw (Txt.join Nl _) ≤ 9
    omega
end DK
/-! Texts near a manifest's; what is read prints. -/
namespace DK
open PySem PySem.Spec PyProof.Rows L2 TL RX
theorem nw_join {ps : List PySem.Str} : W nw (Txt.join Nl ps) ≤ (ps.map (W nw)).sum + ps.length := by
  have := (W_join (f := nw) Nl ps).1
  rw [nw_nl, Nat.mul_one] at this
  exact this
theorem sum_perm {f : PySem.Str → Nat} {xs ys : List PySem.Str} (p : xs.Perm ys) : (xs.map f).sum = (ys.map f).sum := (p.map f).sum_nat
theorem cutV_last (xs : List V) : cutV xs (some (-1)) none = xs.drop (xs.length - 1) := by
  show (xs.drop (if (-1 : Int) < 0 then ((-1 : Int) + (xs.length : Int)).toNat else min (-1 : Int).toNat xs.length)).take (HT.sIx xs.length xs.length none - (if (-1 : Int) < 0 then ((-1 : Int) + (xs.length : Int)).toNat else min (-1 : Int).toNat xs.length)) = _
  rw [if_pos (by decide), HT.sIx_none]
  have e : ((-1 : Int) + (xs.length : Int)).toNat = xs.length - 1 := by omega
  rw [e, List.take_of_length_le (by rw [List.length_drop]; exact Nat.le_refl _)]
theorem dg_nl : W dg Nl = 0 := by decide +kernel
theorem dg_join {ps : List PySem.Str} : W dg (Txt.join Nl ps) ≤ (ps.map (W dg)).sum := by
  have := (W_join (f := dg) Nl ps).1
  rw [dg_nl, Nat.mul_zero] at this
  exact this
theorem Tm.dg {n g g' : Nat} {x : PySem.Str} (h : Tm n g x) (d : W DK.dg x ≤ g') : Tm n g' x := ⟨h.len, d, h.ok⟩
theorem Tl.cut {n g k : Nat} {t : PySem.Str} (h : Tl n g k t) (lo hi : Option Int) : Tl n g k (cutS t lo hi) := ⟨h.t.cut lo hi, Nat.le_trans (W_cut _ _ _) h.l⟩
theorem Tl.line {n g k : Nat} {t : PySem.Str} (h : Tl n g k t) : ∀ l ∈ Txt.split t Nl, W dg l ≤ g := fun l hl => Nat.le_trans (W_mem hl) h.t.dig
section
variable {n g k m : Nat} {t : PySem.Str} (h : Tl n g k t) (hl : ∀ l ∈ Txt.split t Nl, W dg l ≤ m) (hm : 3 ≤ m)
include h hl hm
theorem nearM_out (j : Nat) : Tl (2 * n + 20) (g + m) (2 * k + 2) (Txt.join Nl ((Txt.split t Nl).take j ++ (Txt.split t Nl).drop (j + 1))) := by
  have l := h.lines
  have s := take_drop_sub (Txt.split t Nl) (show j ≤ j + 1 by omega)
  have s1 := sum_subS (f := nw) s
  have s3 := sum_subS (f := dg) s
  have s2 := s.length_le
  obtain ⟨_, b, _⟩ := lines_sum h.t
  exact ⟨(near_out h.t j).dg (Nat.le_trans dg_join (by omega)), Nat.le_trans nw_join (by omega)⟩
theorem nearM_odd (j : Nat) {x : PySem.Str} (o : Odd x) (ox : W nw x = 0) (hg : 3 ≤ g) : Tl (2 * n + 20) (g + m) (2 * k + 2) (Txt.join Nl ((Txt.split t Nl).take j ++ [x] ++ (Txt.split t Nl).drop (j + 1))) := by
  have l := h.lines
  have s := take_drop_sub (Txt.split t Nl) (show j ≤ j + 1 by omega)
  have s1 := sum_subS (f := nw) s
  have s3 := sum_subS (f := dg) s
  have s2 := s.length_le
  have od := o.d
  obtain ⟨_, b, _⟩ := lines_sum h.t
  rw [List.map_append, List.sum_append] at s1 s3
  rw [List.length_append] at s2
  refine ⟨(near_odd h.t j o hg).dg (Nat.le_trans dg_join ?_), Nat.le_trans nw_join ?_⟩
  · rw [List.map_append, List.map_append, List.sum_append, List.sum_append, List.map_cons, List.map_nil, List.sum_cons, List.sum_nil]
    omega
  · rw [List.map_append, List.map_append, List.sum_append, List.sum_append, List.map_cons, List.map_nil, List.sum_cons, List.sum_nil, List.length_append, List.length_append, List.length_singleton, ox]
    omega
theorem nearM_twice (j : Nat) : Tl (2 * n + 20) (g + m) (2 * k + 2) (Txt.join Nl ((Txt.split t Nl).take (j + 1) ++ (Txt.split t Nl).drop j)) := by
  have l := h.lines
  have d1 := sum_subS (f := nw) (List.take_sublist (j + 1) (Txt.split t Nl))
  have d2 := sum_subS (f := nw) (List.drop_sublist j (Txt.split t Nl))
  have pos : 1 ≤ (Txt.split t Nl).length := List.length_pos_iff.mpr (split_ne tl_nl (by decide +kernel))
  obtain ⟨_, b, _⟩ := lines_sum h.t
  refine ⟨(near_twice h.t j).dg (Nat.le_trans dg_join ?_), Nat.le_trans nw_join ?_⟩
  · have e : ((Txt.split t Nl).map (W dg)).sum = (((Txt.split t Nl).take j).map (W dg)).sum + (((Txt.split t Nl).drop j).map (W dg)).sum := by
      rw [← List.sum_append, ← List.map_append, List.take_append_drop]
    have e2 : (((Txt.split t Nl).take (j + 1)).map (W dg)).sum ≤ (((Txt.split t Nl).take j).map (W dg)).sum + m := by
      rw [List.take_add_one, List.map_append, List.sum_append]
      cases z : (Txt.split t Nl)[j]? with
      | none => show _ + 0 ≤ _; omega
      | some x =>
        have := hl x (List.mem_of_getElem? z)
        show _ + (W dg x + 0) ≤ _
        omega
    rw [List.map_append, List.sum_append]
    omega
  · rw [List.map_append, List.sum_append, List.length_append, List.length_take, List.length_drop]
    omega
theorem nearM_sign (a b : Nat) (hab : a ≤ b) {x : PySem.Str} (hx : x.length ≤ 1) (ox : OkS x) (wx : W nw x ≤ 1) (hg : 3 ≤ g) : Tl (2 * n + 20) (g + m) (2 * k + 2) (cutS t none (some (a : Nat)) ++ x ++ cutS t (some (b : Nat)) none) := by
  have key : ∀ f : Nat → Nat, W f (cutS t none (some (a : Nat)) ++ x ++ cutS t (some (b : Nat)) none) ≤ W f t + W f x := fun f => by
    rw [W_app, W_app]
    have s2 := sum_sub (f := f) (take_drop_sub (tl t) hab)
    rw [List.map_append, List.sum_append] at s2
    have d1 : W f (cutS t none (some (a : Nat))) = (((tl t).take a).map f).sum := by unfold W; rw [tl_take]
    have d2 : W f (cutS t (some (b : Nat)) none) = (((tl t).drop b).map f).sum := by unfold W; rw [tl_drop]
    have d3 : W f t = ((tl t).map f).sum := rfl
    rw [d1, d2, d3]
    omega
  have k1 := key dg
  have k2 := key nw
  have k3 := W_dg_le x
  have k4 := h.t.dig
  have k5 := h.l
  exact ⟨(near_sign h.t a b hab hx ox hg).dg (by omega), by omega⟩
theorem nearM_cut (a : Nat) : Tl (2 * n + 20) (g + m) (2 * k + 2) (cutS t none (some (a : Nat))) := (h.cut _ _).up (by omega) (by omega) (by omega)
theorem nearM_mixed {ys : List PySem.Str} (p : ys.Perm ((Txt.split t Nl).drop 1).dropLast) : Tl (2 * n + 20) (g + m) (2 * k + 2) (Txt.join Nl ((Txt.split t Nl).take 1 ++ ys ++ (Txt.split t Nl).drop ((Txt.split t Nl).length - 1))) := by
  have l := h.lines
  obtain ⟨a, b, c⟩ := lines_sum h.t
  have sub : ((Txt.split t Nl).take 1 ++ ((Txt.split t Nl).drop 1).dropLast).Sublist (Txt.split t Nl) := by
    have : ((Txt.split t Nl).take 1 ++ ((Txt.split t Nl).drop 1).dropLast).Sublist ((Txt.split t Nl).take 1 ++ (Txt.split t Nl).drop 1) := (List.Sublist.refl _).append (List.dropLast_sublist _)
    rwa [List.take_append_drop] at this
  have dsub := List.drop_sublist ((Txt.split t Nl).length - 1) (Txt.split t Nl)
  have ln := p.length_eq
  have u1 := sum_len_sub sub
  have u2 := sum_len_sub dsub
  have v1 := sum_subS (f := dg) sub
  have w1 := sum_subS (f := nw) sub
  have w2 := sum_subS (f := nw) dsub
  have z1 := sub.length_le
  have z2 : ((Txt.split t Nl).drop ((Txt.split t Nl).length - 1)).length ≤ 1 := by rw [List.length_drop]; omega
  have v2 : (((Txt.split t Nl).drop ((Txt.split t Nl).length - 1)).map (W dg)).sum ≤ m := by
    have y := sum_leN (f := W dg) (L := (Txt.split t Nl).drop ((Txt.split t Nl).length - 1)) fun x hx => hl x (List.mem_of_mem_drop hx)
    have : ((Txt.split t Nl).drop ((Txt.split t Nl).length - 1)).length * m ≤ 1 * m := Nat.mul_le_mul_right _ z2
    omega
  have pos : 1 ≤ (Txt.split t Nl).length := List.length_pos_iff.mpr (split_ne tl_nl (by decide +kernel))
  rw [List.map_append, List.sum_append] at u1 v1 w1
  rw [List.length_append] at z1
  refine ⟨(tm_join (A := 2 * ((Txt.split t Nl).map (·.length)).sum) (B := g + m) (C := (Txt.split t Nl).length + 1) ?_ ?_ ?_ fun q hq => ?_).up (by omega) (Nat.le_refl _), Nat.le_trans nw_join ?_⟩
  · rw [List.map_append, List.map_append, List.sum_append, List.sum_append, sum_perm p]; omega
  · rw [List.map_append, List.map_append, List.sum_append, List.sum_append, sum_perm p]; omega
  · rw [List.length_append, List.length_append, ln]; omega
  · rcases List.mem_append.mp hq with hq | hq
    · rcases List.mem_append.mp hq with hq | hq
      · exact c q (List.mem_of_mem_take hq)
      · exact c q (List.mem_of_mem_drop (List.dropLast_subset _ (p.mem_iff.mp hq)))
    · exact c q (List.mem_of_mem_drop hq)
  · rw [List.map_append, List.map_append, List.sum_append, List.sum_append, sum_perm p, List.length_append, List.length_append, ln]; omega
end
/-- a manifest that is read, or drawn, prints within bounds -/
theorem gd_rowsM {R : List (List PySem.Str)} {s : PySem.Str} (f : ∀ ws ∈ R, ∀ x ∈ ws, Sg x) (hs : Sg s) (hl : s.length ≤ 100000) (hc : Dt.costAll (R.map wordsD) ≤ 10000000) : Gd (mfD (R, s)) := by
  have d1 := dep_rows R
  have e : mfD (R, s) = .tup [.tup (R.map wordsD), lkD s] := rfl
  rw [e]
  unfold lkD
  by_cases c : V.str s = V.str "-"
  · rw [if_pos c]
    refine ⟨.tup (.cons (.tup (fine_rows f)) (.cons .non .nil)), ?_, ?_⟩
    · show max (Dt.depAll (R.map wordsD) + 1) (max 0 0) + 1 ≤ 59
      omega
    · show 10 + ((10 + Dt.costAll (R.map wordsD)) + (10 + 0)) ≤ 16000000
      omega
  · rw [if_neg c]
    refine ⟨.tup (.cons (.tup (fine_rows f)) (.cons (.str s hs) .nil)), ?_, ?_⟩
    · show max (Dt.depAll (R.map wordsD) + 1) (max 0 0) + 1 ≤ 59
      omega
    · show 10 + ((10 + Dt.costAll (R.map wordsD)) + ((10 * s.length + 10) + 0)) ≤ 16000000
      omega
theorem gd_readM {t : PySem.Str} {n g : Nat} (h : Tm n g t) (hn : n ≤ 10000) : Gd (readDM t) := by
  unfold readDM
  cases e : readGM t with
  | none => exact ⟨.non, Nat.zero_le _, by show 10 ≤ _; omega⟩
  | some a =>
    unfold readGM at e
    cases hr : rowsT t with
    | nil => rw [hr] at e; cases e
    | cons first rest =>
      rw [hr] at e
      have e' : (if rest ≠ [] ∧ first = [("entries" : PySem.Str), num ((rest.length - 1 : Nat) : Int)] then readRM rest else none) = some a := e
      by_cases c : rest ≠ [] ∧ first = [("entries" : PySem.Str), num ((rest.length - 1 : Nat) : Int)]
      · rw [if_pos c] at e'
        unfold readRM at e'
        by_cases c2 : rest.dropLast.all entB = true ∧ ascD (rest.dropLast.map hd) = true ∧ lockM (rest.getLastD []) = true
        · rw [if_pos c2] at e'
          cases e'
          have ok : ∀ ws ∈ rowsT t, ∀ x ∈ ws, Tm n g x := fun ws hw x hx => by
            unfold rowsT at hw
            obtain ⟨y, hy, rfl⟩ := List.mem_map.mp hw
            exact (h.piece tl_nl (by decide +kernel) hy).piece tl_bk (by decide +kernel) hx
          have sg : ∀ {x : PySem.Str}, Tm n g x → Sg x := fun t => OkS.sg t.ok (by have := t.len; omega)
          rw [hr] at ok
          refine gd_rowsM (fun ws hw x hx => sg (ok ws (List.mem_cons_of_mem _ (List.dropLast_subset _ hw)) x hx)) ?_ ?_ ?_
          · obtain ⟨x, y, ex⟩ := lockM_two c2.2.2
            rw [ex]
            have : [x, y] ∈ rest := by rw [← ex]; exact last_mem c.1
            exact sg (ok _ (List.mem_cons_of_mem _ this) y (by simp))
          · obtain ⟨x, y, ex⟩ := lockM_two c2.2.2
            rw [ex]
            have : [x, y] ∈ rest := by rw [← ex]; exact last_mem c.1
            have := (ok _ (List.mem_cons_of_mem _ this) y (by simp)).len
            show y.length ≤ _
            omega
          · have c1 := cost_rows (Txt.split t Nl)
            have h1 := W_split (f := fun _ => 1) t Nl
            rw [W_one, ← len_W] at h1
            have h2 := split_many (x := t) tl_nl (by decide +kernel)
            have h3 : (rest.dropLast.map wordsD).Sublist ((Txt.split t Nl).map fun l => wordsD (Txt.split l Bk)) := by
              have e3 : ((Txt.split t Nl).map fun l => wordsD (Txt.split l Bk)) = (rowsT t).map wordsD := by unfold rowsT; rw [List.map_map]; rfl
              rw [e3, hr]
              exact ((List.dropLast_sublist rest).trans (List.sublist_cons_self _ _)).map _
            have h4 := cost_sub h3
            have := h.len
            omega
        · rw [if_neg c2] at e'; cases e'
      · rw [if_neg c] at e'; cases e'
/-- what is told of a drawn manifest and its text prints -/
theorem gd_mf {g : Lg} (h : MfD g) : Gd (.lst [.str (mfT g), mfD g]) := by
  have t := h.tm.t
  have g1 := gd_readM t (by decide)
  rw [h.read] at g1
  have few := h.few
  have l1 := t.len
  have l2 := (shm_ok g.2 h.lk).2.2.2.1
  have c : Dt.costAll (g.1.map wordsD) ≤ g.1.length * 1000 := by
    have : ∀ L : List (List PySem.Str), (∀ ws ∈ L, EnD ws) → Dt.costAll (L.map wordsD) ≤ L.length * 1000 := by
      intro L
      induction L with
      | nil => intro _; exact Nat.zero_le _
      | cons a L ih =>
        intro hL
        have := ih fun ws hw => hL ws (List.mem_cons_of_mem _ hw)
        obtain ⟨_, _, h3, _, h5, _⟩ := (hL a List.mem_cons_self).ok
        rw [List.map_cons, List.length_cons, Nat.succ_mul]
        show (10 + Dt.costAll (a.map Dt.str)) + Dt.costAll (L.map wordsD) ≤ _
        rw [cost_strs]
        omega
    exact this g.1 h.st
  have lk : (lkD g.2).dep = 0 ∧ (lkD g.2).cost ≤ 10 * g.2.length + 10 := by
    unfold lkD
    by_cases c : V.str g.2 = V.str "-"
    · rw [if_pos c]; exact ⟨rfl, by show 10 ≤ _; omega⟩
    · rw [if_neg c]; exact ⟨rfl, Nat.le_refl _⟩
  refine ⟨.lst (.cons (.str _ (OkS.sg t.ok (by omega))) (.cons g1.fine .nil)), ?_, ?_⟩
  · show max 0 (max (max (Dt.depAll (g.1.map wordsD) + 1) (max (lkD g.2).dep 0) + 1) 0) + 1 ≤ 59
    have := dep_rows g.1
    rw [lk.1]
    omega
  · show 10 + ((10 * (mfT g).length + 10) + ((10 + ((10 + Dt.costAll (g.1.map wordsD)) + ((lkD g.2).cost + 0))) + 0)) ≤ 16000000
    omega
end DK
/-! The manifest, as the program shows it. -/
namespace V73
open PySem PySem.Spec PyProof.Rows L2 TL RX DK
abbrev sMfT : Stmt := topS 16
abbrev sEnt : Stmt := topS 17
abbrev sAscd : Stmt := topS 7
theorem scMfT : FnScope ["manifest", "entries", "lock", "lines", "entry"] ["manifest"] (defScope sMfT) := ⟨rfl, rfl, rfl, by decide +kernel, rfl, by decide +kernel, by decide +kernel⟩
theorem scEnt : FnScope ["words"] ["words"] (defScope sEnt) := ⟨rfl, rfl, rfl, by decide +kernel, rfl, by decide +kernel, by decide +kernel⟩
theorem scAscd : FnScope ["row", "at"] ["row"] (defScope sAscd) := ⟨rfl, rfl, rfl, by decide +kernel, rfl, by decide +kernel, by decide +kernel⟩
def lkV (x : PySem.Str) : V := if V.str x = V.str "-" then .non else .str x
theorem lkV_dash : lkV "-" = .non := if_pos rfl
theorem lkV_str {x : PySem.Str} (h : ¬ V.str x = V.str "-") : lkV x = .str x := if_neg h
theorem lk_rp (b : Addr) (H : Hp) (x : PySem.Str) : Rp b H (lkV x) (lkD x) := by
  unfold lkV lkD
  by_cases c : V.str x = V.str "-"
  · rw [if_pos c, if_pos c]; exact .non
  · rw [if_neg c, if_neg c]; exact .str _
section
variable {P : Program} {w : World} {K : PySem.W.Frag} {mg : PySem.Str → Option Value} {base : Heap}
variable {fN fP fB fS : Addr} {dN dP dB dS : FuncData} {t1 t2 t3 t4 t5 t6 : Tok}
/-- a manifest at v -/
def MfAt (H : Hp) (v : V) (g : Lg) : Prop := ∃ a p vs, v = .ref a ∧ H a = some (.tup [.ref p, lkV g.2]) ∧ H p = some (.tup vs) ∧ Paired (fun u ws => ∃ q, u = V.ref q ∧ H q = some (.tup (ws.map V.str))) vs g.1
theorem lines_fitM {g : Lg} (h : GOk g) : (((headM g.1.length :: (g.1.map (Txt.join Bk) ++ ["lock " ++ g.2])).map (·.length)).sum + (headM g.1.length :: (g.1.map (Txt.join Bk) ++ ["lock " ++ g.2])).length * Nl.length ≤ 16777216) ∧ (headM g.1.length).length ≤ 14 := by
  have h1 : (headM g.1.length).length ≤ 14 := by
    unfold headM
    rw [strLen_append]
    have : (num ((g.1.length : Nat) : Int)).length ≤ 6 := by
      rw [len_tl, show tl (num ((g.1.length : Nat) : Int)) = numL g.1.length from tl_num _]
      exact numL_len (by decide) (by have := h.few; omega)
    have e : ("entries " : PySem.Str).length = 8 := by decide +kernel
    omega
  refine ⟨?_, h1⟩
  have e1 : ("lock " ++ g.2 : PySem.Str).length ≤ 105 := by
    rw [strLen_append]
    have := h.l
    have e : ("lock " : PySem.Str).length = 5 := by decide +kernel
    omega
  have hb : Nl.length = 1 := by decide +kernel
  have hs : ((g.1.map (Txt.join Bk)).map (·.length)).sum ≤ g.1.length * 303 := by
    have : ∀ ws ∈ g.1, (Txt.join Bk ws).length ≤ 303 := fun ws hw => by
      obtain ⟨h3, h4⟩ := h.w ws hw
      have jl := join_len Bk ws
      have hb : Bk.length = 1 := by decide +kernel
      have s := sum_le h4
      have m : ws.length * 100 ≤ 3 * 100 := Nat.mul_le_mul_right _ h3
      rw [hb] at jl
      omega
    have := sum_le (ps := g.1.map (Txt.join Bk)) (m := 303) (fun p hp => by obtain ⟨ws, hw, rfl⟩ := List.mem_map.mp hp; exact this ws hw)
    rw [List.length_map] at this
    exact this
  rw [List.map_cons, List.sum_cons, List.map_append, List.sum_append, List.length_cons, List.length_append, List.length_map, hb]
  have := h.few
  have : g.1.length * 303 ≤ 100 * 303 := Nat.mul_le_mul_right _ h.few
  simp only [List.map_cons, List.map_nil, List.sum_cons, List.sum_nil, List.length_cons, List.length_nil]
  omega
def spMfT : Sp := fun vs H Q _ => ∃ (v : V) (g : Lg), vs = [v] ∧ MfAt H v g ∧ GOk g ∧ ∀ H', Same H H' → Q (.str (mfT g)) H'
theorem ok_mft {f : Addr} {fd : FuncData} {k : Nat} {t7 : Tok} (F : Fun K "manifest_text" "manifest_text" sMfT f fd) (mL : mg "len" = none) (gZ : mg "NO_SHELF" = some (.str "-" t7)) : FnOk P w K mg base CX0 (k + 1) f fd ["manifest"] spMfT := by
  refine F.ok scMfT (fun vs H Q E h => ?_) (fun cdv A outer s H vs Q E hr h => ?_)
  · obtain ⟨v, g, rfl, _⟩ := h
    rfl
  · obtain ⟨v, g, rfl, ⟨a, p, vs, rfl, ha, hp, hs⟩, gk, q⟩ := h
    refine ⟨_, pss_cons (ps_asg (pv 0) (pg_tup rfl (pgs_cons (pg_name (i := 1) scMfT.nd rfl (Or.inl rfl)) (pgs_cons (pg_name (i := 2) scMfT.nd rfl (Or.inl rfl)) pgs_nil))))
      (pss_cons (ps_set (i := 3) scMfT.nd rfl (.inl rfl) (pe_op op_cat (pe_lst (pa_cons (pe_joined (PJ.cons pe_str (PJ.cons (pe_fmt (pe_callB call_len_seq (by rfl) mL PySem.boot_len (pa_cons (pv 1) pa_nil))) PJ.nil))) pa_nil))
          (pe_lc (own := [("entry", 4)]) (g := gName 4) rfl scMfT.nd (pi_tup (pv 1)) (blkOk_by (N := ["manifest", "entries", "lock", "lines", "entry"]) (sc := defScope sMfT) (by decide +kernel)) (fun _ _ _ _ _ => pg_name (i := 4) scMfT.nd rfl (Or.inl rfl)) (fun _ _ _ _ _ => pts_nil) (fun _ _ _ _ _ => pe_mid (pe_joinK (K := K) pe_str (pv 4))))))
      (pss_one (ps_ret (pe_join pe_str (pe_op op_cat (pv 3) (pe_lst (pa_cons (pe_joined (PJ.cons pe_str (PJ.cons (pe_fmt (pe_mid (pe_ifExp (pt_cmpR op_isN (pv 2) pe_non (nomark _)) (pe_glob (v := .str "-") (by rfl) gZ ⟨_, rfl⟩) (pv 2)))) PJ.nil))) pa_nil))))))), ?_⟩
    have hz : sizeLine = 16777216 := sizeLine_eq
    obtain ⟨fit, hl⟩ := lines_fitM gk
    have lv := pd_len hs
    have few := gk.few
    refine ⟨_, rfl, a, _, rfl, .inl (.inl ha), rfl, _, _, rfl, _, _, rfl, rfl, ?_⟩
    have k1 : (Str.empty ++ "entries " : PySem.Str) = "entries " := by decide +kernel
    have k2 : (Str.empty ++ "lock " : PySem.Str) = "lock " := by decide +kernel
    have k5 : ("lock " : PySem.Str).length = 5 := by decide +kernel
    have gl := gk.l
    refine ⟨"entries ", rfl, by decide +kernel, _, rfl, p, _, rfl, .inr (.inl (.inl hp)), .inr ⟨_, rfl, log_le (k := 3) (by rw [lv, Int.natAbs_natCast]; omega) (by decide), _, rfl, ?_, ?_⟩⟩
    · rw [k1]
      have e : ("entries " ++ Str.ofString (toString ((vs.length : Nat) : Int)) : PySem.Str) = headM g.1.length := by rw [lv]; rfl
      rw [e]
      omega
    rw [k1, show ("entries " ++ Str.ofString (toString ((vs.length : Nat) : Int)) : PySem.Str) = headM g.1.length by rw [lv]; rfl]
    refine ⟨by show 1 ≤ sizeLine; decide, fun l1 n1 => ?_⟩
    have s1 := new_same (o := .lst [.str (headM g.1.length)]) n1
    have h1 : upd H l1 (.lst [.str (headM g.1.length)]) l1 = some (.lst [.str (headM g.1.length)]) := upd_same
    generalize upd H l1 (.lst [.str (headM g.1.length)]) = H1 at s1 h1 ⊢
    refine ⟨_, rfl, p, rfl, ⟨_, .inl (.inl (s1 _ _ hp))⟩, fun D nD => ?_⟩
    refine lc_map (walk_tup (K := K) (a := p) (xs := vs)) (fun u y _ => ∃ (ws : List PySem.Str) (q : Addr), (u = V.ref q ∧ H q = some (.tup (ws.map V.str))) ∧ y = .str (Txt.join Bk ws)) nD rfl (by omega) (fun H2 s => .inl (.inl (s _ _ (s1 _ _ hp)))) (fun _ _ _ _ _ h => h) (fun _ => rfl) (fun j u Hc hu s _ => ?_) (fun H2 ys s hD hq => ?_)
    · obtain ⟨ws, hw, q1, rfl, hq1⟩ := pd_at hs hu
      obtain ⟨w3, w4⟩ := gk.w ws hw
      have jl := join_len Bk ws
      have hb : Bk.length = 1 := by decide +kernel
      have sl := sum_le w4
      have m3 : ws.length * 100 ≤ 3 * 100 := Nat.mul_le_mul_right _ w3
      exact ⟨⟨_, rfl⟩, _, rfl, Bk, q1, ws, rfl, rfl, .inr (.inl (.inl ((s1.trans s) _ _ hq1))), by rw [hb]; omega, Same.refl _, ws, q1, ⟨rfl, hq1⟩, rfl⟩
    · have ey : ys = (g.1.map (Txt.join Bk)).map V.str := join_all hs hq
      rw [ey] at hD
      have s2 := s1.trans s
      refine ⟨l1, D, _, _, rfl, rfl, s _ _ h1, hD, by simp only [List.length_map, List.length_cons, List.length_nil, sizeLine_eq]; omega, fun l3 n3 => ?_⟩
      have s3 := s2.trans (new_same (o := .lst ([.str (headM g.1.length)] ++ (g.1.map (Txt.join Bk)).map V.str)) n3)
      have h3 : upd H2 l3 (.lst ([.str (headM g.1.length)] ++ (g.1.map (Txt.join Bk)).map V.str)) l3 = some (.lst ([.str (headM g.1.length)] ++ (g.1.map (Txt.join Bk)).map V.str)) := upd_same
      generalize upd H2 l3 (.lst ([.str (headM g.1.length)] ++ (g.1.map (Txt.join Bk)).map V.str)) = H3 at s3 h3 ⊢
      refine ⟨⟨_, rfl⟩, _, rfl, "lock ", rfl, by decide +kernel, fun x H' => x = .str g.2 ∧ H' = H3, ⟨_, rfl, rfl, _, rfl, ?_⟩, ?_⟩
      · by_cases c : V.str g.2 = V.str "-"
        · have e : g.2 = "-" := by injection c
          rw [e, lkV_dash, decide_eq_true rfl]
          exact ⟨rfl, rfl⟩
        · rw [lkV_str c, decide_eq_false (by intro z; cases z)]
          exact ⟨_, rfl, rfl, rfl⟩
      rintro x H' ⟨rfl, rfl⟩
      refine .inl ⟨_, rfl, by omega, _, rfl, by rw [k2, strLen_append, sizeLine_eq, k5]; omega, by show 1 ≤ sizeLine; decide, fun l4 n4 => ?_⟩
      rw [k2]
      have s4 := new_same (o := .lst [.str ("lock " ++ g.2)]) n4
      have h4 : upd H' l4 (.lst [.str ("lock " ++ g.2)]) l4 = some (.lst [.str ("lock " ++ g.2)]) := upd_same
      generalize upd H' l4 (.lst [.str ("lock " ++ g.2)]) = H4 at s4 h4 ⊢
      refine ⟨l3, l4, _, _, rfl, rfl, s4 _ _ h3, h4, by simp only [List.length_append, List.length_map, List.length_cons, List.length_nil, sizeLine_eq]; omega, fun l5 n5 => ?_⟩
      have e5 : ([V.str (headM g.1.length)] ++ (g.1.map (Txt.join Bk)).map V.str ++ [V.str ("lock " ++ g.2)]) = (headM g.1.length :: (g.1.map (Txt.join Bk) ++ ["lock " ++ g.2])).map V.str := by
        rw [List.map_cons, List.map_append]
        rfl
      rw [e5]
      exact ⟨Nl, l5, _, rfl, rfl, .inl (.inl (.inl upd_same)), fit, q _ ((s3.trans s4).trans (new_same n5))⟩
/-- is_entry -/
def spEnt : Sp := fun vs H Q _ => ∃ (a : Addr) (ws : List PySem.Str), vs = [.ref a] ∧ H a = some (.tup (ws.map V.str)) ∧ (∀ x ∈ ws, x.length ≤ 1000000) ∧ ∀ H', Same H H' → Q (.bl (entB ws)) H'
theorem ok_ent {f : Addr} {fd : FuncData} {k : Nat} (F : Fun K "is_entry" "is_entry" sEnt f fd) (T : Cn K mg fN fP fB fS dN dP dB dS t1 t2 t3 t4 t5 t6) : FnOk P w K mg base CX0 (k + 3) f fd ["words"] spEnt := by
  have GP : FnOk P w K mg base CX0 (k + 2) fP dP ["thing"] spPath := ok_path T
  have GS : FnOk P w K mg base CX0 (k + 2) fS dS ["path"] spShelf := ok_shelf T
  refine F.ok scEnt (fun vs H Q E h => ?_) (fun cdv A outer s H vs Q E hr h => ?_)
  · obtain ⟨a, ws, rfl, _⟩ := h
    rfl
  · obtain ⟨a, ws, rfl, ha, hx, q⟩ := h
    refine ⟨_, pss_one (ps_ret (pe_and (pe_cmpR op_eq (pe_callB call_len_seq (by rfl) T.mL PySem.boot_len (pa_cons (pv 0) pa_nil)) pe_int (nomark _))
        (pe_and (pe_call GP hr (by rfl) T.gP T.FP.kp T.bP .nil pass0 (pa_cons (pe_ix (show IxR _ (rIxT K) from ix_tup) (pv 0) pe_int (fun _ _ => rfl)) pa_nil)) (pe_one (pe_call GS hr (by rfl) T.gS T.FS.kp T.bS .nil pass0 (pa_cons (pe_ix (show IxR _ (rIxT K) from ix_tup) (pv 0) pe_int (fun _ _ => rfl)) pa_nil)))))), ?_⟩
    refine ⟨_, rfl, a, _, rfl, .inr (.inl (.inl ha)), rfl, _, rfl, ?_⟩
    have e2 : (V.int (((ws.map V.str).length : Nat) : Int) = V.int 2) ↔ ws.length = 2 := by
      rw [List.length_map]
      exact ⟨fun z => by injection z with z; omega, fun z => by rw [z]; rfl⟩
    match ws, ha, hx, q, e2 with
    | [y, u], ha, hx, q, e2 =>
      rw [decide_eq_true (e2.mpr rfl)]
      refine ⟨_, rfl, a, _, 0, .str y, rfl, rfl, .inl (.inl ha), rfl, y, rfl, hx y (by simp), fun H1 s1 => ⟨_, rfl, ?_⟩⟩
      have z : ∀ H2, Same H H2 → Q (.bl (isPath y && isShelf u)) H2 := q
      by_cases ep : isPath y = true
      · rw [ep] at z ⊢
        exact ⟨_, rfl, a, _, 1, .str u, rfl, rfl, .inl (.inl (s1 _ _ ha)), rfl, u, rfl, hx u (by simp), fun H2 s2 => z H2 (s1.trans s2)⟩
      · have ep' : isPath y = false := by simpa using ep
        rw [ep'] at z ⊢
        exact z H1 s1
    | [], ha, hx, q, e2 =>
      rw [decide_eq_false (fun z => by have := e2.mp z; simp at this)]
      exact q H (Same.refl _)
    | [x], ha, hx, q, e2 =>
      rw [decide_eq_false (fun z => by have := e2.mp z; simp at this)]
      exact q H (Same.refl _)
    | x :: y :: u :: r, ha, hx, q, e2 =>
      rw [decide_eq_false (fun z => by have := e2.mp z; simp at this)]
      exact q H (Same.refl _)
/-- is_ascending, of a list -/
def spAscd (K : PySem.W.Frag) : Sp := fun vs H Q _ => ∃ (q : Addr) (fs : List PySem.Str), vs = [.ref q] ∧ H q = some (.lst (fs.map V.str)) ∧ fs.length ≤ 1000000 ∧ ∀ H', Same H H' → Q (.bl (ascD fs)) H'
theorem ok_ascd {f : Addr} {fd : FuncData} {k : Nat} (F : Fun K "is_ascending" "is_ascending" sAscd f fd) (mL : mg "len" = none) (mA : mg "all" = none) (mR : mg "range" = none) : FnOk P w K mg base CX0 (k + 1) f fd ["row"] (spAscd K) := by
  refine F.ok scAscd (fun vs H Q E h => ?_) (fun cdv A outer s H vs Q E hr h => ?_)
  · obtain ⟨q, fs, rfl, _⟩ := h
    rfl
  · obtain ⟨p, fs, rfl, hp, hl, q⟩ := h
    refine ⟨_, pss_one (ps_ret (pe_callB (cr_all rfl) (by rfl) mA (by decide +kernel) (pa_cons (pe_lc (own := [("at", 1)]) (g := gName 1) rfl scAscd.nd
      (pi_range1 (by rfl) mR (pa_cons (pe_sub (pe_callB call_len_seq (by rfl) mL PySem.boot_len (pa_cons (pv 0) pa_nil)) pe_int) pa_nil)) (blkOk_by (N := ["row", "at"]) (sc := defScope sAscd) (by decide +kernel))
      (fun _ _ _ _ _ => pg_name (i := 1) scAscd.nd rfl (Or.inl rfl)) (fun _ _ _ _ _ => pts_nil)
      (fun _ _ _ _ _ => pe_cmpR op_lt_str (pe_ix (show IxR _ (rIxL K) from ix_list) (pv 0) (pv 1) (fun _ _ => rfl)) (pe_ix (show IxR _ (rIxL K) from ix_list) (pv 0) (pe_add (pv 1) pe_int) (fun _ _ => rfl)) (nomark _))) pa_nil))), ?_⟩
    have hz : sizeLine = 16777216 := sizeLine_eq
    refine ⟨_, rfl, p, fs.map V.str, rfl, .inl (.inl (.inl hp)), (fs.map V.str).length, 1, rfl, rfl, ((fs.map V.str).length : Int) - 1, rfl, by rw [List.length_map]; omega, by rw [List.length_map]; omega, fun Dl nD => ?_⟩
    rw [List.length_map]
    have en : ((fs.length : Int) - 1).toNat = (ascB fs).length := by rw [asc_len]; omega
    refine lc_range (lo := 0) (n := ((fs.length : Int) - 1).toNat) (fun j Hc => Hc Dl = some (.lst (((ascB fs).take j).map V.bl)) ∧ Same H Hc) ⟨by rw [List.take_zero]; exact upd_same, new_same nD⟩ ?_ (fun Hc hP => ?_)
    · rintro i Hc hi ⟨c1, c2⟩
      have hp' := c2 _ _ hp
      obtain ⟨a, ha⟩ : ∃ a, fs[i]? = some a := ⟨_, List.getElem?_eq_getElem (by omega)⟩
      obtain ⟨b, hb⟩ : ∃ b, fs[i + 1]? = some b := ⟨_, List.getElem?_eq_getElem (by omega)⟩
      have hab : (ascB fs)[i]? = some (decide (a.cps.toList < b.cps.toList)) := by
        unfold ascB
        rw [List.getElem?_zipWith, ha, List.getElem?_tail, hb]
      refine ⟨rfl, _, rfl, _, rfl, p, fs.map V.str, ((i : Nat) : Int), .str a, rfl, by rw [Int.zero_add], .inl (.inl hp'), atI_nat (by rw [List.getElem?_map, ha]; rfl), ?_⟩
      refine ⟨_, rfl, _, rfl, _, _, rfl, rfl, p, fs.map V.str, ((i + 1 : Nat) : Int), .str b, rfl, by rw [Int.zero_add]; rfl, .inl (.inl hp'), atI_nat (by rw [List.getElem?_map, hb]; rfl), a, b, rfl, rfl, ?_⟩
      refine ⟨_, c1, by rw [List.length_map, List.length_take]; omega, ?_, fun y o h => ?_⟩
      · rw [upd_same, List.take_add_one, hab, List.map_append]
        rfl
      · rw [upd_ne (ne_of_none h nD)]
        exact c2 y o h
    · obtain ⟨c1, c2⟩ := hP
      rw [en, List.take_length] at c1
      refine ⟨Dl, ascB fs, rfl, .inl (.inl c1), q Hc c2⟩
end
end V73
/-! The manifest, as the program reads it. -/
namespace V73
open PySem PySem.Spec PyProof.Rows L2 TL RX DK
abbrev sReadM : Stmt := topS 18
abbrev NR : List PySem.Str := ["text", "lines", "rows", "entries", "last", "line", "entry"]
theorem scReadM : FnScope NR ["text"] (defScope sReadM) := ⟨rfl, rfl, rfl, by decide +kernel, rfl, by decide +kernel, by decide +kernel⟩
section
variable {P : Program} {w : World} {K : PySem.W.Frag} {mg : PySem.Str → Option Value} {base : Heap}
variable {fN fP fB fS : Addr} {dN dP dB dS : FuncData} {t1 t2 t3 t4 t5 t6 : Tok}
/-- what stands for rows of words, each a tuple -/
def RwAt (H : Hp) (vs : List V) (R : List (List PySem.Str)) : Prop := Paired (fun u ws => ∃ q, u = V.ref q ∧ H q = some (.tup (ws.map V.str))) vs R
theorem RwAt.same {H H' : Hp} {vs : List V} {R : List (List PySem.Str)} (h : RwAt H vs R) (s : Same H H') : RwAt H' vs R := pd_imp (fun _ _ ⟨q, e, z⟩ => ⟨q, e, s _ _ z⟩) h
theorem RwAt.rp {H : Hp} (b : Addr) : ∀ {vs : List V} {R : List (List PySem.Str)}, RwAt H vs R → RpAll b H vs (R.map wordsD)
  | _, _, .nil => .nil
  | _, _, .cons ⟨q, e, z⟩ t => .cons (by rw [e]; exact .tup z (rp_strs _)) (RwAt.rp b t)
def spReadM : Sp := fun vs H Q _ => ∃ t : PySem.Str, vs = [.str t] ∧ t.length ≤ 900000 ∧ ∀ H' v, Same H H' → (∀ b, Rp b H' v (readDM t)) → Q v H'
theorem ok_readM {f fI fA : Addr} {fd dI dA : FuncData} {k : Nat} {t7 : Tok} (F : Fun K "read_manifest" "read_manifest" sReadM f fd) (FI : Fun K "is_entry" "is_entry" sEnt fI dI) (bI : Binds K dI ["words"] []) (gI : mg "is_entry" = some (.ref fI))
    (FA : Fun K "is_ascending" "is_ascending" sAscd fA dA) (bA : Binds K dA ["row"] []) (gA : mg "is_ascending" = some (.ref fA)) (mU : mg "tuple" = none) (mR : mg "range" = none) (gZ : mg "NO_SHELF" = some (.str "-" t7))
    (T : Cn K mg fN fP fB fS dN dP dB dS t1 t2 t3 t4 t5 t6) : FnOk P w K mg base CX0 (k + 4) f fd ["text"] spReadM := by
  have GI : FnOk P w K mg base CX0 (k + 3) fI dI ["words"] spEnt := ok_ent FI T
  have GA : FnOk P w K mg base CX0 (k + 3) fA dA ["row"] (spAscd K) := ok_ascd FA T.mL T.mA mR
  have GS : FnOk P w K mg base CX0 (k + 3) fS dS ["path"] spShelf := ok_shelf T
  refine F.ok scReadM (fun vs H Q E h => ?_) (fun cdv A outer s H vs Q E hr h => ?_)
  · obtain ⟨t, rfl, _⟩ := h
    rfl
  · obtain ⟨t, rfl, hx, q⟩ := h
    refine ⟨_, pss_cons (ps_set (i := 1) scReadM.nd rfl (.inl rfl) (pe_split (pv 0) pe_str))
      (C8.pss_cut (ps_setLc (i := 2) (own := [("line", 5)]) (g := gName 5) rfl scReadM.nd rfl rfl (sw_true rfl rfl rfl (by decide +kernel)) (pi_list (pe_slice sl_list (pv 1) (po_some pe_int) po_none)) (blkOk_by (N := NR) (sc := defScope sReadM) (by decide +kernel))
          (fun _ _ _ _ _ => pg_name (i := 5) scReadM.nd rfl (Or.inl rfl)) (fun _ _ _ _ _ => pts_nil) (fun _ _ _ _ _ => pe_mid (pe_callTy (show CallR _ _ (rTupOf K) from call_tupK) (by rfl) mU (by decide +kernel) (pa_cons (pe_split (pv 5) pe_str) pa_nil))))
      (pss_cons (ps_if (PW.pt (pw_or (pt_not (pt_truth (pv 2) (fun _ => rfl))) (pw_or1 (pt_cmpR op_ne (pe_ix ix_list (pv 1) pe_int (fun _ _ => rfl)) (pe_joined (PJ.cons pe_str (PJ.cons (pe_fmt (pe_op op_sub (pe_callB call_len_seq (by rfl) T.mL PySem.boot_len (pa_cons (pv 2) pa_nil)) pe_int)) PJ.nil))) (nomark _))))) (pss_one (ps_ret pe_non)) pss_nil)
      (pss_cons (ps_par (i := 3) (j := 4) rfl scReadM.nd rfl rfl (by decide) rfl rfl (pa_cons (pe_callTy call_tuple_of (by rfl) mU (by decide +kernel) (pa_cons (pe_slice sl_list (pv 2) po_none (po_some (pe_un un_neg pe_int))) pa_nil)) (pa_cons (pe_ix ix_list (pv 2) (pe_un un_neg pe_int) (fun _ _ => rfl)) pa_nil)) (by rfl))
      (pss_cons (ps_if (PW.pt (pw_or (pt_not (pt_val (pe_callB (cr_all rfl) (by rfl) T.mA (by decide +kernel) (pa_cons (pe_lc (own := [("entry", 6)]) (g := gName 6) rfl scReadM.nd (pi_tup (pv 3)) (blkOk_by (N := NR) (sc := defScope sReadM) (by decide +kernel))
          (fun _ _ _ _ _ => pg_name (i := 6) scReadM.nd rfl (Or.inl rfl)) (fun _ _ _ _ _ => pts_nil) (fun _ _ _ _ _ => pe_mid (pe_call GI hr (by rfl) gI FI.kp bI .nil pass0 (pa_cons (pv 6) pa_nil)))) pa_nil))))
          (pw_or1 (pt_not (pt_val (pe_call GA hr (by rfl) gA FA.kp bA .nil pass0 (pa_cons (pe_lc (own := [("entry", 6)]) (g := gName 6) rfl scReadM.nd (pi_tup (pv 3)) (blkOk_by (N := NR) (sc := defScope sReadM) (by decide +kernel))
          (fun _ _ _ _ _ => pg_name (i := 6) scReadM.nd rfl (Or.inl rfl)) (fun _ _ _ _ _ => pts_nil) (fun _ _ _ _ _ => pe_mid (pe_ix (show IxR _ (rIxT K) from ix_tup) (pv 6) pe_int (fun _ _ => rfl)))) pa_nil))))))) (pss_one (ps_ret pe_non)) pss_nil)
      (pss_cons (ps_if (PW.pt (pw_or (pt_cmpR op_ne (pe_callB call_len_seq (by rfl) T.mL PySem.boot_len (pa_cons (pv 4) pa_nil)) pe_int (nomark _)) (pw_or (pt_cmpR op_ne (pe_ix (show IxR _ (rIxT K) from ix_tup) (pv 4) pe_int (fun _ _ => rfl)) pe_str (nomark _))
          (pw_or1 (PW.pt (pw_and (pt_cmpR op_ne (pe_ix (show IxR _ (rIxT K) from ix_tup) (pv 4) pe_int (fun _ _ => rfl)) (pe_glob (v := .str "-") (by rfl) gZ ⟨_, rfl⟩) (nomark _)) (pw_and1 (pt_not (pt_val (pe_call GS hr (by rfl) T.gS T.FS.kp T.bS .nil pass0 (pa_cons (pe_ix (show IxR _ (rIxT K) from ix_tup) (pv 4) pe_int (fun _ _ => rfl)) pa_nil))))))))))) (pss_one (ps_ret pe_non)) pss_nil)
      (pss_one (ps_ret (pe_tup (pa_cons (pv 3) (pa_cons (pe_mid (pe_ifExp (pt_cmpR op_eq (pe_ix (show IxR _ (rIxT K) from ix_tup) (pv 4) pe_int (fun _ _ => rfl)) (pe_glob (v := .str "-") (by rfl) gZ ⟨_, rfl⟩) (nomark _)) pe_non (pe_ix (show IxR _ (rIxT K) from ix_tup) (pv 4) pe_int (fun _ _ => rfl)))) pa_nil)))))))))), ?_⟩
    have hz : sizeLine = 16777216 := sizeLine_eq
    have many := split_many (x := t) tl_nl (by decide +kernel)
    have ne := split_ne (x := t) tl_nl (by decide +kernel)
    refine ⟨_, rfl, ⟨t, rfl⟩, t, Nl, rfl, rfl, by decide +kernel, by omega, fun l nl => ?_⟩
    have hl : upd H l (.lst ((Txt.split t Nl).map V.str)) l = some (.lst ((Txt.split t Nl).map V.str)) := upd_same
    have sl := new_same (o := .lst ((Txt.split t Nl).map V.str)) nl
    generalize upd H l (.lst ((Txt.split t Nl).map V.str)) = H1 at hl sl ⊢
    have short : ∀ w ∈ Txt.split t Nl, w.length ≤ t.length := fun w hw => split_len tl_nl (by decide +kernel) hw
    -- the rows
    refine ⟨fun σ' H' => ∃ D vs, σ' = [some (.str t), some (.ref l), some (.ref D), none, none, none, none] ∧ Same H1 H' ∧ H' D = some (.lst vs) ∧ RwAt H' vs (rowsT t).tail, ?_, ?_⟩
    · refine ⟨_, rfl, 1, rfl, l, _, rfl, .inl (.inl hl), fun l2 n2 => ⟨l2, rfl, ⟨_, .inl (.inl upd_same)⟩, fun D nD => ?_⟩⟩
      have e1 : cutV ((Txt.split t Nl).map V.str) (some 1) none = (Txt.split t Nl).tail.map V.str := by
        rw [show (1 : Int) = ((1 : Nat) : Int) from rfl, cutV_drop, List.drop_one, List.map_tail]
      rw [e1] at nD ⊢
      have h2 : upd H1 l2 (.lst ((Txt.split t Nl).tail.map V.str)) l2 = some (.lst ((Txt.split t Nl).tail.map V.str)) := upd_same
      have s2 := new_same (o := .lst ((Txt.split t Nl).tail.map V.str)) n2
      generalize upd H1 l2 (.lst ((Txt.split t Nl).tail.map V.str)) = H2 at nD h2 s2 ⊢
      refine lc_map (walk_list (K := K) (a := l2) (xs := (Txt.split t Nl).tail.map V.str)) (fun x y H => ∃ (z : PySem.Str) (q : Addr), x = V.str z ∧ y = V.ref q ∧ H q = some (.tup ((Txt.split z Bk).map V.str))) nD (by simp) (by rw [List.length_map, List.length_tail]; omega) (fun H s => .inl (.inl (s _ _ h2)))
        (fun x y H H' k ⟨z, q, e1, e2, e3⟩ => ⟨z, q, e1, e2, k _ _ e3 (fun _ e => nomatch e) (fun _ e => nomatch e)⟩) (fun _ => rfl) (fun j v Hc hv s _ => ?_) (fun H' ys s hD hp => ?_)
      · rw [List.getElem?_map] at hv
        obtain ⟨z, hz1, rfl⟩ := Option.map_eq_some_iff.mp hv
        have zl := short z (List.mem_of_mem_tail (List.mem_of_getElem? hz1))
        refine ⟨_, rfl, ⟨z, rfl⟩, z, Bk, rfl, rfl, by decide +kernel, by omega, fun m nm => ⟨m, _, rfl, .inl ⟨.inl (.inl upd_same), fun r nr => ⟨(new_same nm).trans (new_same nr), z, r, rfl, rfl, upd_same⟩⟩⟩⟩
      · refine ⟨D, ys, rfl, s2.trans s, hD, ?_⟩
        have er : (rowsT t).tail = (Txt.split t Nl).tail.map fun l => Txt.split l Bk := by unfold rowsT; rw [List.map_tail]
        rw [er]
        exact pd_rows hp
    rintro σ' H2 ⟨D, vs, rfl, s2, hD, rw0⟩
    have sH2 := sl.trans s2
    have hl2 := s2 _ _ hl
    have lv := pd_len rw0
    obtain ⟨l0, ls, hls⟩ : ∃ l0 ls, Txt.split t Nl = l0 :: ls := by
      cases e : Txt.split t Nl with
      | nil => exact absurd e ne
      | cons a b => exact ⟨a, b, rfl⟩
    have hrows : rowsT t = Txt.split l0 Bk :: ls.map fun l => Txt.split l Bk := by unfold rowsT; rw [hls]; rfl
    have hR : ∃ R, R = (rowsT t).tail := ⟨_, rfl⟩
    obtain ⟨R, hR⟩ := hR
    rw [← hR] at rw0 lv
    have rD : readDM t = match (if R ≠ [] ∧ Txt.split l0 Bk = [("entries" : PySem.Str), num ((R.length - 1 : Nat) : Int)] then readRM R else none) with | some g => mfD g | none => .non := by
      unfold readDM readGM
      rw [hR, hrows]
      all_goals rfl
    have fail : ∀ H', Same H H' → ¬ (R ≠ [] ∧ Txt.split l0 Bk = [("entries" : PySem.Str), num ((R.length - 1 : Nat) : Int)] ∧ (readRM R).isSome = true) → Q .non H' := fun H' s' n => q H' .non s' fun b => by
      rw [rD]
      by_cases c : R ≠ [] ∧ Txt.split l0 Bk = [("entries" : PySem.Str), num ((R.length - 1 : Nat) : Int)]
      · rw [if_pos c]
        cases e : readRM R with
        | none => exact .non
        | some g => exact absurd ⟨c.1, c.2, by rw [e]; rfl⟩ n
      · rw [if_neg c]; exact .non
    refine ⟨_, rfl, !vs.isEmpty, .inl ⟨_, .inl (.inl hD), rfl⟩, ?_⟩
    by_cases hv0 : vs = []
    · have hRn : R = [] := by rw [hv0] at lv; exact List.length_eq_zero_iff.mp lv.symm
      rw [hv0]
      exact fail H2 sH2 fun z => z.1 hRn
    · have l1 : 1 ≤ vs.length := List.length_pos_iff.mpr hv0
      have hRn : R ≠ [] := fun e => by rw [e] at lv; simp only [List.length_nil] at lv; omega
      have ie : vs.isEmpty = false := by
        cases vs with
        | nil => exact absurd rfl hv0
        | cons a b => rfl
      rw [ie]
      have k1 : (Str.empty ++ "entries " : PySem.Str) = "entries " := by decide +kernel
      have eh : ("entries " ++ Str.ofString (toString (((vs.length : Nat) : Int) - 1)) : PySem.Str) = headM (R.length - 1) := by
        have : ((vs.length : Nat) : Int) - 1 = ((R.length - 1 : Nat) : Int) := by omega
        rw [this]; rfl
      have few : R.length ≤ 900001 := by
        have := congrArg List.length hR
        rw [List.length_tail] at this
        unfold rowsT at this
        rw [List.length_map] at this
        omega
      have hl6 : (headM (R.length - 1)).length ≤ 20 := by
        unfold headM
        rw [strLen_append]
        have : (num ((R.length - 1 : Nat) : Int)).length ≤ 7 := by
          rw [len_tl, show tl (num ((R.length - 1 : Nat) : Int)) = numL (R.length - 1) from tl_num _]
          exact numL_len (by decide) (by omega)
        have e : ("entries " : PySem.Str).length = 8 := by decide +kernel
        omega
      refine ⟨_, rfl, l, _, 0, .str l0, rfl, rfl, .inl (.inl hl2), atI_nat (j := 0) (by rw [hls]; rfl), "entries ", rfl, by decide +kernel, _, rfl, D, _, rfl, .inl (.inl (.inl hD)), _, _, rfl, rfl, .inr ⟨_, rfl, log_le (k := 7) (by omega) (by decide), _, rfl, by rw [k1, eh]; omega, rfl, _, rfl, ?_⟩⟩
      rw [k1, eh]
      by_cases hh : l0 = headM (R.length - 1)
      · have hsp := (head_lineM l0 (R.length - 1)).mpr hh
        rw [decide_eq_true (show V.str l0 = V.str (headM (R.length - 1)) by rw [hh])]
        have fail2 : ∀ H', Same H H' → ¬ (R.dropLast.all entB = true ∧ ascD (R.dropLast.map hd) = true ∧ lockM (R.getLastD []) = true) → Q .non H' := fun H' s' n => fail H' s' fun z => n (by
          have := z.2.2
          unfold readRM at this
          by_cases c : R.dropLast.all entB = true ∧ ascD (R.dropLast.map hd) = true ∧ lockM (R.getLastD []) = true
          · exact c
          · rw [if_neg c] at this; cases this)
        obtain ⟨u, lw, hu, hlw, qa, eu, hqa⟩ := pd_last rw0 hRn
        subst eu
        have rwi := pd_init rw0
        refine ⟨_, rfl, 1, rfl, _, rfl, D, _, rfl, .inl (.inl hD), fun l3 n3 => ⟨l3, _, rfl, .inl ⟨.inl (.inl upd_same), fun p np => ?_⟩⟩⟩
        rw [show (-(1 : Int)) = -1 from rfl, cutV_init] at np ⊢
        have s3 := (new_same (o := .lst vs.dropLast) n3).trans (new_same (o := .tup vs.dropLast) np)
        have hp3 : upd (upd H2 l3 (.lst vs.dropLast)) p (.tup vs.dropLast) p = some (.tup vs.dropLast) := upd_same
        generalize upd (upd H2 l3 (.lst vs.dropLast)) p (.tup vs.dropLast) = H3 at s3 hp3 ⊢
        have sH3 := sH2.trans s3
        refine ⟨_, rfl, 1, rfl, D, _, -1, .ref qa, rfl, rfl, .inl (.inl (s3 _ _ hD)), atI_end hu, _, _, rfl, ?_⟩
        refine ⟨_, rfl, p, rfl, ⟨_, .inl (.inl hp3)⟩, fun D2 nD2 => ?_⟩
        have short2 : ∀ ws ∈ R, ∀ x ∈ ws, x.length ≤ 1000000 := fun ws hw x hx2 => by
          rw [hR] at hw
          have := List.mem_of_mem_tail hw
          unfold rowsT at this
          obtain ⟨y, hy, rfl⟩ := List.mem_map.mp this
          have h1 := short y hy
          have h2 := split_len (x := y) tl_bk (by decide +kernel) hx2
          omega
        refine lc_map (walk_tup (K := K) (a := p) (xs := vs.dropLast)) (fun x y _ => ∃ (ws : List PySem.Str) (q : Addr), (x = V.ref q ∧ H2 q = some (.tup (ws.map V.str))) ∧ y = .bl (entB ws)) nD2 rfl (by rw [List.length_dropLast]; omega) (fun H s => .inl (.inl (s _ _ hp3))) (fun _ _ _ _ _ h => h) (fun _ => rfl) (fun j v Hc hv s _ => ?_) (fun H4 ys s hD2 hp => ?_)
        · obtain ⟨ws, hw, q1, rfl, hq1⟩ := pd_at rwi hv
          exact ⟨_, rfl, q1, ws, rfl, (s3.trans s) _ _ hq1, short2 ws (List.dropLast_subset _ hw), fun H5 s5 => ⟨s5, ws, q1, ⟨rfl, hq1⟩, rfl⟩⟩
        · have ey := pd_fn (f := fun ws => V.bl (entB ws)) rwi hp
          have sH4 := sH3.trans s
          refine ⟨D2, R.dropLast.map entB, rfl, .inl (.inl (by rw [hD2, ey, List.map_map]; rfl)), ?_⟩
          rw [List.all_map]
          refine ⟨R.dropLast.all entB, rfl, ?_⟩
          by_cases al : R.dropLast.all entB = true
          case neg =>
            have al' : R.dropLast.all entB = false := by simpa using al
            rw [al']
            exact fail2 H4 sH4 fun z => al z.1
          rw [al]
          have hp4 := s _ _ hp3
          have s24 := s3.trans s
          refine ⟨_, rfl, p, rfl, ⟨_, .inl (.inl hp4)⟩, fun D3 nD3 => ?_⟩
          refine lc_map (walk_tup (K := K) (a := p) (xs := vs.dropLast)) (fun x y _ => ∃ (ws : List PySem.Str) (q : Addr), (x = V.ref q ∧ H2 q = some (.tup (ws.map V.str))) ∧ y = .str (hd ws)) nD3 rfl (by rw [List.length_dropLast]; omega) (fun H s => .inl (.inl (s _ _ hp4))) (fun _ _ _ _ _ h => h) (fun _ => rfl) (fun j v Hc hv s5 _ => ?_) (fun H5 zs s5 hD3 hp5 => ?_)
          · obtain ⟨ws, hw, q1, rfl, hq1⟩ := pd_at rwi hv
            obtain ⟨y, u, ew, _, _⟩ := ent_two (List.all_eq_true.mp al ws hw)
            have e0 : atI (ws.map V.str) 0 = some (V.str (hd ws)) := by rw [ew]; rfl
            exact ⟨_, rfl, q1, _, 0, .str (hd ws), rfl, rfl, .inl (.inl ((s24.trans s5) _ _ hq1)), e0, Same.refl _, ws, q1, ⟨rfl, hq1⟩, rfl⟩
          have ez := pd_fn (f := fun ws => V.str (hd ws)) rwi hp5
          have sH5 := sH4.trans s5
          have few2 : R.dropLast.length ≤ 900001 := by rw [List.length_dropLast]; omega
          refine ⟨D3, R.dropLast.map hd, rfl, by rw [hD3, ez, List.map_map]; rfl, by rw [List.length_map]; omega, fun H6 s6 => ⟨_, rfl, ?_⟩⟩
          have sH6 := sH5.trans s6
          by_cases asc : ascD (R.dropLast.map hd) = true
          case neg =>
            have asc' : ascD (R.dropLast.map hd) = false := by simpa using asc
            rw [asc']
            exact fail2 H6 sH6 fun z => asc z.2.1
          rw [asc]
          have s26 := (s24.trans s5).trans s6
          have hqa6 := s26 _ _ hqa
          have eL : R.getLastD [] = lw := by
            rw [List.getLastD_eq_getLast?, hlw]; rfl
          refine ⟨_, rfl, qa, _, rfl, .inr (.inl (.inl hqa6)), rfl, _, rfl, ?_⟩
          have e2 : (V.int (((lw.map V.str).length : Nat) : Int) = V.int 2) ↔ lw.length = 2 := by
            rw [List.length_map]
            exact ⟨fun z => by injection z with z; omega, fun z => by rw [z]; rfl⟩
          by_cases h2 : lw.length = 2
          case neg =>
            rw [decide_eq_false (fun z => h2 (e2.mp z))]
            refine fail2 H6 sH6 fun z => h2 ?_
            rw [eL] at z
            obtain ⟨x, y, e⟩ := lockM_two z.2.2
            rw [e]; rfl
          rw [decide_eq_true (e2.mpr h2)]
          obtain ⟨x, y, rfl⟩ : ∃ x y, lw = [x, y] := by
            match lw, h2 with
            | [x, y], _ => exact ⟨x, y, rfl⟩
          refine ⟨_, rfl, qa, _, 0, .str x, rfl, rfl, .inl (.inl hqa6), rfl, rfl, _, rfl, ?_⟩
          have hlk : lockM (R.getLastD []) = (decide (V.str x = V.str "lock") && (decide (V.str y = V.str "-") || isShelf y)) := by rw [eL]; rfl
          by_cases ex : V.str x = V.str "lock"
          case neg =>
            rw [decide_eq_false ex]
            exact fail2 H6 sH6 fun z => by rw [hlk, decide_eq_false ex] at z; exact Bool.noConfusion z.2.2
          rw [decide_eq_true ex]
          rw [decide_eq_true ex, Bool.true_and] at hlk
          have ylen := short2 _ (List.mem_of_getLast? hlw) y (by simp)
          have done : ∀ H7, Same H6 H7 → lockM (R.getLastD []) = true → ∀ r, H7 r = none → Q (.ref r) (upd H7 r (.tup [.ref p, lkV y])) := fun H7 s7 hl r nr => by
            have sr := new_same (o := .tup [.ref p, lkV y]) nr
            refine q _ _ ((sH6.trans s7).trans sr) fun b => ?_
            rw [rD, if_pos ⟨hRn, hsp⟩]
            unfold readRM
            rw [if_pos ⟨al, asc, hl⟩, eL]
            exact .tup upd_same (.cons (.tup (sr _ _ (s7 _ _ (s6 _ _ (s5 _ _ hp4)))) (RwAt.rp b (((RwAt.same rwi s26).same s7).same sr))) (.cons (lk_rp b _ y) .nil))
          refine ⟨_, rfl, qa, _, 1, .str y, rfl, rfl, .inl (.inl hqa6), rfl, rfl, _, rfl, ?_⟩
          by_cases ey2 : V.str y = V.str "-"
          · rw [decide_eq_true ey2]
            rw [decide_eq_true ey2, Bool.true_or] at hlk
            refine ⟨_, rfl, fun x H' => x = lkV y ∧ H' = H6, ⟨_, rfl, qa, _, 1, .str y, rfl, rfl, .inl (.inl hqa6), rfl, rfl, _, rfl, ?_⟩, ?_⟩
            · rw [decide_eq_true ey2]
              exact ⟨(if_pos ey2).symm, rfl⟩
            rintro z H7 ⟨rfl, rfl⟩
            exact ⟨by show 2 ≤ sizeLine; decide, fun r nr => done _ (Same.refl _) hlk r nr⟩
          · rw [decide_eq_false ey2]
            rw [decide_eq_false ey2, Bool.false_or] at hlk
            refine ⟨_, rfl, qa, _, 1, .str y, rfl, rfl, .inl (.inl hqa6), rfl, y, rfl, ylen, fun H7 s7 => ⟨_, rfl, ?_⟩⟩
            by_cases es : isShelf y = true
            · rw [es]
              rw [es] at hlk
              have hqa7 := s7 _ _ hqa6
              refine ⟨_, rfl, fun x H' => x = lkV y ∧ H' = H7, ⟨_, rfl, qa, _, 1, .str y, rfl, rfl, .inl (.inl hqa7), rfl, rfl, _, rfl, ?_⟩, ?_⟩
              · rw [decide_eq_false ey2]
                exact ⟨_, rfl, qa, _, 1, .str y, rfl, rfl, .inl (.inl hqa7), rfl, (if_neg ey2).symm, rfl⟩
              rintro z H8 ⟨rfl, rfl⟩
              exact ⟨by show 2 ≤ sizeLine; decide, fun r nr => done _ s7 hlk r nr⟩
            · have es' : isShelf y = false := by simpa using es
              rw [es']
              exact fail2 H7 (sH6.trans s7) fun z => by rw [hlk, es'] at z; exact Bool.noConfusion z.2.2
      · rw [decide_eq_false (show ¬ V.str l0 = V.str (headM (R.length - 1)) from fun z => hh (by injection z))]
        exact fail H2 sH2 fun z => hh ((head_lineM l0 (R.length - 1)).mp z.2.1)
end
end V73
/-! sorted(set(texts)). -/
namespace DK
open PySem PySem.Spec PyProof.Rows L2 TL RX
theorem pe_sortSet {X : Cx} {e : Expr} {te : TE} {p1 p2 p3 p4 : Pos} (hc : X.calm = true) (hg1 : Gl X "sorted") (hg2 : Gl X "set") (m1 : X.mg "sorted" = none) (m2 : X.mg "set" = none) (he : PE X e te)
    (h1 : starEach (e :: []) X.env = (false, eval e X.env) :: starEach [] X.env) :
    PE X (.Call (.Name "sorted" p1) [.Call (.Name "set" p2) [e] [] p3] [] p4) (fun σ H Q => te σ H fun x H1 => ∃ (l : Addr) (xs : List PySem.Str), x = .ref l ∧ H1 l = some (.lst (xs.map V.str)) ∧ xs.length < 64 ∧
      ∀ (H' : Hp) (p : Addr) (ys : List PySem.Str), Same H1 H' → H1 p = none → H' p = some (.lst (ys.map V.str)) → TX.Asc ys → (∀ x, x ∈ ys ↔ x ∈ xs) → ys.length ≤ xs.length → Q (.ref p) H') := by
  constructor
  intro pins s σ H Q I h
  have R := pe_callB (X := X) (pos := p4) (p := p1) (TX.cr_sortedX hc) hg1 m1 (by decide +kernel) (pa_cons (pe_callTy (pos := p3) (p := p2) (TX.cr_setX hc) hg2 m2 (by decide +kernel) (pa_cons (pe_mid he) pa_nil h1) (by decide) (by decide) h1 (by rfl)) pa_nil) (by decide) (by decide) (by rfl) (by rfl)
  refine R.run pins s σ H Q I ⟨_, h, ?_⟩
  rintro x H1 ⟨l, xs, rfl, hl, few, q⟩
  refine ⟨l, xs, rfl, .inl (.inl hl), few, fun a na => ⟨a, xs, rfl, upd_same, few, fun ys p as mm le np => ?_⟩⟩
  have s1 : Same H1 (upd H1 a (TX.SXO X.prog X.w a xs)) := new_same na
  exact q _ p ys (s1.trans (new_same np)) (same_no s1 np) upd_same as mm le
/-- heads of rows that a comprehension has made -/
theorem heads_all {H : Hp} : ∀ {vs : List V} {R : List (List PySem.Str)} {ys : List V}, Paired (fun u ws => ∃ q, u = V.ref q ∧ H q = some (.lst (ws.map V.str))) vs R →
    Paired (fun x y => ∃ (ws : List PySem.Str) (q : Addr), (x = V.ref q ∧ H q = some (.lst (ws.map V.str))) ∧ y = .str (hd ws)) vs ys → ys = (R.map hd).map V.str
  | _, _, _, .nil, h => by cases h; rfl
  | _, _, _, .cons a b, h => by
    cases h with
    | cons c d =>
      obtain ⟨q, rfl, h1⟩ := a
      obtain ⟨ws, q2, ⟨e, h2⟩, rfl⟩ := c
      cases e
      rw [h1] at h2
      have e := strs_inj (HO.lst.inj (Option.some.inj h2))
      rw [heads_all b d, e]; rfl
end DK
/-! A drawn manifest. -/
namespace V73
open PySem PySem.Spec PyProof.Rows L2 TL RX DK
abbrev sDrawn : Stmt := topS 31
abbrev ND : List PySem.Str := ["bag", "paths", "shelves", "entries", "path", "number"]
theorem scDrawn : FnScope ND ["bag"] (defScope sDrawn) := ⟨rfl, rfl, rfl, by decide +kernel, rfl, by decide +kernel, by decide +kernel⟩
/-- the functions that draw -/
structure Dr (K : PySem.W.Frag) (mg : PySem.Str → Option Value) (fT fO fM : Addr) (dT dO dM : FuncData) : Prop where
  FT : Fun K "_law_take" "_law_take" sTake fT dT
  bT : Binds K dT ["bag", "many"] []
  gT : mg "_law_take" = some (.ref fT)
  FO : Fun K "_law_one" "_law_one" sOne fO dO
  bO : Binds K dO ["bag", "things"] []
  gO : mg "_law_one" = some (.ref fO)
  FM : Fun K "_law_mixed" "_law_mixed" sMixed fM dM
  bM : Binds K dM ["bag", "things"] []
  gM : mg "_law_mixed" = some (.ref fM)
  mI : mg "int" = none
  mL : mg "len" = none
  mR : mg "range" = none
  mU : mg "tuple" = none
  mT : mg "str" = none
  mSo : mg "sorted" = none
theorem RwAt.kt {H H' : Hp} {vs : List V} {R : List (List PySem.Str)} (h : RwAt H vs R) (s : KT H H') : RwAt H' vs R := pd_imp (fun _ _ ⟨q, e, z⟩ => ⟨q, e, s _ _ z⟩) h
theorem MfAt.kt {H H' : Hp} {v : V} {g : Lg} (h : MfAt H v g) (s : KT H H') : MfAt H' v g := by
  obtain ⟨a, p, vs, e, h1, h2, h3⟩ := h
  exact ⟨a, p, vs, e, s _ _ h1, s _ _ h2, RwAt.kt h3 s⟩
def shV : V → V | .int n => .str ("store/c" ++ num n) | _ => .non
theorem pd_map {f : V → V} : ∀ {xs ys : List V}, Paired (fun x y => y = f x) xs ys → ys = xs.map f
  | _, _, .nil => rfl
  | _, _, .cons a b => by rw [a, pd_map b]; rfl
theorem shv_map : [V.int 0, .int 1, .int 7, .int 10, .int 123456789, .int ((10 : Int) ^ (18 : Int).toNat)].map shV = SHV.map V.str := by decide +kernel
theorem shv_small : ∀ v ∈ [V.int 0, .int 1, .int 7, .int 10, .int 123456789, .int ((10 : Int) ^ (18 : Int).toNat)], ∃ n : Int, v = .int n ∧ n.natAbs < 10 ^ 20 ∧ (num n).length ≤ 30 := by
  intro v hv
  simp only [List.mem_cons, List.not_mem_nil, or_false] at hv
  rcases hv with e | e | e | e | e | e <;> exact ⟨_, e, by decide +kernel, by decide +kernel⟩
theorem ptm_mul : [V.str "a", .str "a-b", .str "a/b", .str "app/doc", .str "b", .str (Txt.mul "x" 20), .str "z9"] = PTM.map V.str := by decide +kernel
theorem ptm_nd : PTM.Nodup := by decide +kernel
def lkW : V → Prop := fun v => ∃ x ∈ SHM, v = lkV x
theorem lk_of {v : V} (h : v ∈ SHV.map V.str ++ [V.non, V.non, V.non]) : ∃ x ∈ SHM, v = lkV x := by
  rcases List.mem_append.mp h with h | h
  · obtain ⟨x, hx, rfl⟩ := List.mem_map.mp h
    exact ⟨x, List.mem_append_left _ hx, (lkV_str (shv_plain x hx)).symm⟩
  · simp only [List.mem_cons, List.not_mem_nil, or_false, or_self] at h
    exact ⟨"-", List.mem_append_right _ (List.mem_singleton.mpr rfl), by rw [h, lkV_dash]⟩
section
variable {P : Program} {w : World} {K : PySem.W.Frag} {mg : PySem.Str → Option Value} {base : Heap}
variable {fT fO fM : Addr} {dT dO dM : FuncData}
def spDrawn : Sp := fun vs H Q _ => ∃ b : Addr, vs = [.ref b] ∧ Bag H b ∧ ∀ H' v g, Chb b H H' → Bag H' b → MfAt H' v g → MfD g → Q v H'
theorem ok_drawn {f : Addr} {fd : FuncData} {k : Nat} (F : Fun K "_law_drawn_manifest" "_law_drawn_manifest" sDrawn f fd) (T : Dr K mg fT fO fM dT dO dM) : FnOk P w K mg base CX0 (k + 3) f fd ["bag"] spDrawn := by
  have GT : FnOk P w K mg base CX0 (k + 2) fT dT ["bag", "many"] spTake := ok_take T.FT T.mI
  have GO : FnOk P w K mg base CX0 (k + 2) fO dO ["bag", "things"] spOne := ok_one T.FO T.FT T.bT T.gT T.mI T.mL
  refine F.ok scDrawn (fun vs H Q E h => ?_) (fun cdv A outer s H vs Q E hr h => ?_)
  · obtain ⟨b, rfl, _⟩ := h
    rfl
  · obtain ⟨b, rfl, hB, q⟩ := h
    refine ⟨_, C8.pss_cut (ps_setLc (i := 1) (own := [("path", 4)]) (g := gName 4) rfl scDrawn.nd rfl rfl (sw_true rfl rfl rfl (by decide +kernel)) (pi_list (pe_lst (pa_cons pe_str (pa_cons pe_str (pa_cons pe_str (pa_cons pe_str (pa_cons pe_str (pa_cons (pe_op op_mulS pe_str pe_int) (pa_cons pe_str pa_nil))))))))) (blkOk_by (N := ND) (sc := defScope sDrawn) (by decide +kernel))
          (fun _ _ _ _ _ => pg_name (i := 4) scDrawn.nd rfl (Or.inl rfl)) (fun _ _ _ _ _ => pts_one (pt_cmpR op_eq (pe_call GT hr (by rfl) T.gT T.FT.kp T.bT .nil pass0 (pa_cons (pv 0) (pa_cons pe_int pa_nil))) pe_int (nomark _))) (fun _ _ _ _ _ => pv 4))
      (pss_cons (ps_set (i := 2) scDrawn.nd rfl (.inr rfl) (pe_lc (own := [("number", 5)]) (g := gName 5) rfl scDrawn.nd (pi_list (pe_lst (pa_cons pe_int (pa_cons pe_int (pa_cons pe_int (pa_cons pe_int (pa_cons pe_int (pa_cons (pe_op op_pow pe_int pe_int) pa_nil)))))))) (blkOk_by (N := ND) (sc := defScope sDrawn) (by decide +kernel))
          (fun _ _ _ _ _ => pg_name (i := 5) scDrawn.nd rfl (Or.inl rfl)) (fun _ _ _ _ _ => pts_nil) (fun _ _ _ _ _ => pe_mid (pe_op op_add_str pe_str (pe_callTy call_str_int (by rfl) T.mT (by decide +kernel) (pa_cons (pv 5) pa_nil))))))
      (C8.pss_cut (ps_set (i := 3) scDrawn.nd rfl (.inl rfl) (pe_callTy call_tuple_of (by rfl) T.mU (by decide +kernel) (pa_cons (pe_lc (own := [("path", 4)]) (g := gName 4) rfl scDrawn.nd (pi_list (pe_callB cr_sortedS (by rfl) T.mSo (by decide +kernel) (pa_cons (pv 1) pa_nil))) (blkOk_by (N := ND) (sc := defScope sDrawn) (by decide +kernel))
          (fun _ _ _ _ _ => pg_name (i := 4) scDrawn.nd rfl (Or.inl rfl)) (fun _ _ _ _ _ => pts_nil) (fun _ _ _ _ _ => pe_tup (pa_cons (pv 4) (pa_cons (pe_call GO hr (by rfl) T.gO T.FO.kp T.bO .nil pass0 (pa_cons (pv 0) (pa_cons (pv 2) pa_nil))) pa_nil)))) pa_nil)))
      (pss_one (ps_ret (pe_tup (pa_cons (pv 3) (pa_cons (pe_call GO hr (by rfl) T.gO T.FO.kp T.bO .nil pass0 (pa_cons (pv 0) (pa_cons (pe_op op_cat (pv 2) (pe_lst (pa_cons pe_non (pa_cons pe_non (pa_cons pe_non pa_nil))))) pa_nil))) pa_nil))))))), ?_⟩
    obtain ⟨ob, hb⟩ := hB.lst
    have hz : sizeLine = 16777216 := sizeLine_eq
    -- paths
    refine ⟨fun σ' H' => ∃ (r : Addr) (ps : List PySem.Str), σ' = [some (.ref b), some (.ref r), none, none, none, none] ∧ Chb b H H' ∧ Bag H' b ∧ r ≠ b ∧ H' r = some (.lst (ps.map V.str)) ∧ ps.Sublist PTM, ?_, ?_⟩
    · refine ⟨"x", 20, rfl, rfl, ⟨by decide +kernel, by decide +kernel⟩, by show 7 ≤ sizeLine; decide, fun p1 n1 => ?_⟩
      rw [ptm_mul]
      have h1 : upd H p1 (.lst (PTM.map V.str)) p1 = some (.lst (PTM.map V.str)) := upd_same
      have s1 := new_same (o := .lst (PTM.map V.str)) n1
      have b1 : p1 ≠ b := (ne_of_none hb n1).symm
      have B1 := hB.same s1
      generalize upd H p1 (.lst (PTM.map V.str)) = H1 at h1 s1 B1 ⊢
      refine ⟨p1, rfl, ⟨_, .inl (.inl h1)⟩, fun D nD => ?_⟩
      have hb1 := s1 _ _ hb
      have Db : D ≠ b := (ne_of_none hb1 nD).symm
      obtain ⟨lc, cs0, O1, hlc, lcb⟩ := B1.own
      have Dl : D ≠ lc := (ne_of_none hlc nD).symm
      refine lc_it (walk_list (K := K) (a := p1) (xs := PTM.map V.str)) (fun j Hc => Chb b H1 Hc ∧ Bag Hc b ∧ ∃ ps : List PySem.Str, Hc D = some (.lst (ps.map V.str)) ∧ ps.Sublist (PTM.take j)) ⟨Chb.new nD, B1.same (new_same nD), [], upd_same, by simp⟩ (fun j Hc _ h => .inl (.inl (h.1.app _ _ b1 h1))) ?_ ?_
      · rintro j x H' Hc hj ⟨c1, B2, ps, hD, sub⟩ ⟨rfl, hx⟩
        rw [List.getElem?_map] at hx
        obtain ⟨px, hpx, rfl⟩ := Option.map_eq_some_iff.mp hx
        have et : PTM.take (j + 1) = PTM.take j ++ [px] := by rw [List.take_add_one, hpx]; rfl
        refine ⟨rfl, _, rfl, b, 2, rfl, B2, by decide, by decide, fun H3 v c3 B3 v0 v1 => ?_⟩
        have hD3 := c3 _ _ Db hD
        have c13 := c1.trans c3
        refine ⟨rfl, _, rfl, ite2 (fun e => ?_) (fun e => ?_)⟩
        · have lp : ps.length ≤ 7 := by have := sub.length_le; rw [List.length_take] at this; have : PTM.length = 7 := rfl; omega
          refine ⟨_, rfl, ps.map V.str, hD3, by rw [List.length_map]; omega, c13.put nD Db, (B3.set (O1.chb c13) Db Dl).1, ps ++ [px], by rw [upd_same, List.map_append]; rfl, ?_⟩
          rw [et]
          exact sub.append (List.Sublist.refl _)
        · exact ⟨c13, B3, ps, hD3, by rw [et]; exact sub.trans (List.sublist_append_left _ _)⟩
      · rintro Hc ⟨c1, B2, ps, hD, sub⟩
        exact ⟨D, ps, rfl, (Chb.same s1).trans c1, B2, Db, hD, sub⟩
    rintro σ' H1 ⟨r, ps, rfl, c1, B1, rb, hr1, sub⟩
    obtain ⟨o1, hb1⟩ := B1.lst
    -- shelves
    refine ⟨10, 18, rfl, rfl, ⟨by decide, by decide, by decide⟩, by show 6 ≤ sizeLine; decide, fun p2 n2 => ⟨p2, rfl, ⟨_, .inl (.inl upd_same)⟩, fun D nD => ?_⟩⟩
    have h2 : upd H1 p2 (.lst [V.int 0, .int 1, .int 7, .int 10, .int 123456789, .int ((10 : Int) ^ (18 : Int).toNat)]) p2 = some (.lst [V.int 0, .int 1, .int 7, .int 10, .int 123456789, .int ((10 : Int) ^ (18 : Int).toNat)]) := upd_same
    have s2 := new_same (o := .lst [V.int 0, .int 1, .int 7, .int 10, .int 123456789, .int ((10 : Int) ^ (18 : Int).toNat)]) n2
    generalize upd H1 p2 (.lst [V.int 0, .int 1, .int 7, .int 10, .int 123456789, .int ((10 : Int) ^ (18 : Int).toNat)]) = H2 at h2 s2 nD ⊢
    have bD : D ≠ b := (ne_of_none (s2 _ _ hb1) nD).symm
    refine lc_map (walk_list (K := K) (a := p2) (xs := [V.int 0, .int 1, .int 7, .int 10, .int 123456789, .int ((10 : Int) ^ (18 : Int).toNat)])) (fun x y _ => y = shV x) nD rfl (by decide) (fun H s => .inl (.inl (s _ _ h2))) (fun _ _ _ _ _ h => h) (fun _ => rfl) (fun j u Hc hu s _ => ?_) (fun H3 ys s3 hD hp => ?_)
    · obtain ⟨n, rfl, hn, this⟩ := shv_small u (List.mem_of_getElem? hu)
      refine ⟨_, rfl, n, rfl, log_le (k := 20) hn (by decide), _, _, rfl, rfl, ?_, Same.refl _, rfl⟩
      have k7 : ("store/c" : PySem.Str).length = 7 := by decide +kernel
      rw [k7, sizeLine_eq]
      show 7 + (num n).length ≤ _
      omega
    rw [pd_map hp, shv_map] at hD
    clear hp nD
    have s13 := s2.trans s3
    have c3 := c1.trans (Chb.same s13)
    have B3 := B1.same s13
    have hr3 := s13 _ _ hr1
    have hb3 := s13 _ _ hb1
    clear h2 s2 s3 c1 B1 hr1
    -- entries
    refine ⟨fun σ' H' => ∃ (y4 : Option V) (p : Addr) (vs : List V) (L : List (List PySem.Str)), σ' = [some (.ref b), some (.ref r), some (.ref D), some (.ref p), y4, none] ∧ Chb b H H' ∧ Bag H' b ∧ H' p = some (.tup vs) ∧ RwAt H' vs L ∧ (∀ ws ∈ L, EnD ws) ∧ TX.Asc (L.map hd) ∧ L.length ≤ 7 ∧ H' D = some (.lst (SHV.map V.str)), ?_, ?_⟩
    · have lp : ps.length ≤ 7 := by have := sub.length_le; have : PTM.length = 7 := rfl; omega
      refine ⟨_, rfl, r, ps, rfl, .inl (.inl hr3), by omega, fun qs p pm so np => ⟨p, rfl, ⟨_, .inl (.inl upd_same)⟩, fun D2 nD2 => ?_⟩⟩
      have h4 : upd H3 p (.lst (qs.map V.str)) p = some (.lst (qs.map V.str)) := upd_same
      have s4 := new_same (o := .lst (qs.map V.str)) np
      have pb : p ≠ b := (ne_of_none hb3 np).symm
      have B4 := B3.same s4
      have hD4 := s4 _ _ hD
      have hb4 := s4 _ _ hb3
      generalize upd H3 p (.lst (qs.map V.str)) = H4 at h4 s4 B4 hD4 hb4 nD2 ⊢
      have D2b : D2 ≠ b := (ne_of_none hb4 nD2).symm
      obtain ⟨lc, cs0, O4, hlc, lcb⟩ := B4.own
      have D2l : D2 ≠ lc := (ne_of_none hlc nD2).symm
      have asq : TX.Asc qs := ⟨so, pm.nodup_iff.mpr (sub.nodup ptm_nd)⟩
      have mq : ∀ x ∈ qs, x ∈ PTM := fun x hx => sub.mem (pm.mem_iff.mp hx)
      have lq : qs.length ≤ 7 := by rw [pm.length_eq]; exact lp
      refine lc_it (walk_list (K := K) (a := p) (xs := qs.map V.str)) (fun j Hc => Chb b H4 Hc ∧ Bag Hc b ∧ ∃ (vs : List V) (L : List (List PySem.Str)), Hc D2 = some (.lst vs) ∧ RwAt Hc vs L ∧ (∀ ws ∈ L, EnD ws) ∧ L.map hd = qs.take j) ⟨Chb.new nD2, B4.same (new_same nD2), [], [], upd_same, .nil, (fun ws hw => by cases hw), by simp⟩ (fun j Hc _ h => .inl (.inl (h.1.app _ _ pb h4))) ?_ ?_
      · rintro j x H' Hc hj ⟨c1, B2, vs, L, hD2, rw2, en, hL⟩ ⟨rfl, hx⟩
        rw [List.getElem?_map] at hx
        obtain ⟨px, hpx, rfl⟩ := Option.map_eq_some_iff.mp hx
        refine ⟨rfl, _, rfl, _, rfl, _, rfl, b, D, _, rfl, B2, c1.app _ _ bD hD4, bD, by decide, by decide, fun H5 s c5 B5 hs => ?_⟩
        obtain ⟨sx, hsx, rfl⟩ := List.mem_map.mp hs
        refine ⟨by show 2 ≤ sizeLine; decide, fun t nt => ?_⟩
        have s6 := new_same (o := .tup [V.str px, V.str sx]) nt
        have h6 : upd H5 t (.tup [V.str px, V.str sx]) t = some (.tup ([px, sx].map V.str)) := upd_same
        have c6 := (c1.trans c5).trans (Chb.new (o := .tup [V.str px, V.str sx]) nt)
        have hD6 := s6 _ _ (c5 _ _ D2b hD2)
        have r6 := (RwAt.kt rw2 (Chb.kt B2 c5)).same s6
        have B6 := B5.same s6
        generalize upd H5 t (.tup [V.str px, V.str sx]) = H6 at s6 h6 c6 hD6 r6 B6 ⊢
        have lv := pd_len rw2
        have ll : L.length ≤ 7 := by have := congrArg List.length hL; rw [List.length_map, List.length_take] at this; omega
        have kt := KT.lst (o := .lst (vs ++ [V.ref t])) hD6
        refine ⟨vs, hD6, by omega, c6.put nD2 D2b, (B6.set (O4.chb c6) D2b D2l).1, vs ++ [V.ref t], L ++ [[px, sx]], upd_same, pd_snoc ⟨t, rfl, kt _ _ h6⟩ (RwAt.kt r6 kt), fun ws hw => ?_, ?_⟩
        · rcases List.mem_append.mp hw with e | e
          · exact en ws e
          · rw [List.mem_singleton.mp e]
            exact ⟨px, mq px (List.mem_of_getElem? hpx), sx, hsx, rfl⟩
        · rw [List.map_append, hL, List.take_add_one, hpx]
          rfl
      · rintro Hc ⟨c1, B2, vs, L, hD2, rw2, en, hL⟩
        rw [List.length_map, List.take_length] at hL
        refine ⟨D2, vs, rfl, .inl ⟨.inl (.inl hD2), fun t nt => ?_⟩⟩
        have s6 := new_same (o := .tup vs) nt
        refine ⟨_, t, vs, L, rfl, ((c3.trans (Chb.same s4)).trans c1).trans (Chb.same s6), B2.same s6, upd_same, RwAt.same rw2 s6, en, by rw [hL]; exact asq, ?_, s6 _ _ (c1.app _ _ bD hD4)⟩
        have := congrArg List.length hL
        rw [List.length_map] at this
        omega
    clear c3 B3 hr3 hb3 hD
    rintro σ' H3 ⟨y4, p, vs, L, rfl, c3, B3, hp3, r3, en, as, few, hD3⟩
    obtain ⟨o3, hb3⟩ := B3.lst
    refine ⟨_, rfl, _, rfl, _, rfl, by show 3 ≤ sizeLine; decide, fun m1 n1 => ⟨D, m1, _, _, rfl, rfl, new_ne hD3 n1, upd_same, by decide, fun m2 n2 => ?_⟩⟩
    have s4 := (new_same (o := .lst [V.non, V.non, V.non]) n1).trans (new_same (o := .lst (SHV.map V.str ++ [V.non, V.non, V.non])) n2)
    have h4 : upd (upd H3 m1 (.lst [V.non, V.non, V.non])) m2 (.lst (SHV.map V.str ++ [V.non, V.non, V.non])) m2 = some (.lst (SHV.map V.str ++ [V.non, V.non, V.non])) := upd_same
    have m2b : m2 ≠ b := (ne_of_none (new_ne hb3 n1) n2).symm
    generalize upd (upd H3 m1 (.lst [V.non, V.non, V.non])) m2 (.lst (SHV.map V.str ++ [V.non, V.non, V.non])) = H4 at s4 h4 ⊢
    refine ⟨b, m2, _, rfl, B3.same s4, h4, m2b, by decide, by decide, fun H5 v c5 B5 hv => ?_⟩
    obtain ⟨x, hx, rfl⟩ := lk_of hv
    have k5 := Chb.kt (B3.same s4) c5
    refine ⟨by show 2 ≤ sizeLine; decide, fun t nt => ?_⟩
    have s6 := new_same (o := .tup [.ref p, lkV x]) nt
    exact q _ _ (L, x) (((c3.trans (Chb.same s4)).trans c5).trans (Chb.same s6)) (B5.same s6) ⟨t, p, vs, rfl, upd_same, s6 _ _ (k5 _ _ (s4 _ _ hp3)), ((r3.same s4).kt k5).same s6⟩ ⟨few, en, as, hx⟩
end
end V73
/-! A text near one. -/
namespace V73
open PySem PySem.Spec PyProof.Rows L2 TL RX DK
abbrev sNear : Stmt := topS 32
theorem scNear : FnScope ["bag", "text", "lines", "way", "at", "line", "odd", "sign"] ["bag", "text"] (defScope sNear) := ⟨rfl, rfl, rfl, by decide +kernel, rfl, by decide +kernel, by decide +kernel⟩
def ODL : List PySem.Str := ["entries 1", "entries 01", "a store/c0", "a store/c01", "A store/c0", "a store/c", "a b c", "lock store/c0", "lock -", ""]
theorem odl_ok : ∀ x ∈ ODL, Odd x := fun x hx => odd_of ((show ∀ x ∈ ODL, oddB x = true by decide +kernel) x hx)
theorem odl_nw : ∀ x ∈ ODL, W nw x = 0 := by decide +kernel
def SGL : List PySem.Str := [" ", "\n", "0", "a", "/", "-", "A", "9"]
theorem sgl_ok : ∀ x ∈ SGL, (x.length ≤ 1 ∧ W nw x ≤ 1) ∧ OkS x := by
  intro x hx
  have := (show ∀ x ∈ SGL, (x.length ≤ 1 ∧ W nw x ≤ 1) ∧ ∀ c ∈ tl x, c < 0x110000 by decide +kernel) x hx
  exact this
section
variable {P : Program} {w : World} {K : PySem.W.Frag} {mg : PySem.Str → Option Value} {base : Heap}
variable {fT fO fM : Addr} {dT dO dM : FuncData}
def spNear : Sp := fun vs H Q _ => ∃ (b : Addr) (t : PySem.Str) (n g z m : Nat), vs = [.ref b, .str t] ∧ Bag H b ∧ Tl n g z t ∧ n ≤ 2000 ∧ 3 ≤ g ∧ z ≤ 30 ∧ (∀ l ∈ Txt.split t Nl, W dg l ≤ m) ∧ 3 ≤ m ∧ ∀ H' t', Chb b H H' → Bag H' b → Tl (2 * n + 20) (g + m) (2 * z + 2) t' → Q (.str t') H'
theorem ok_near {f : Addr} {fd : FuncData} {k : Nat} (F : Fun K "_law_near_text" "_law_near_text" sNear f fd) (T : Dr K mg fT fO fM dT dO dM) : FnOk P w K mg base CX0 (k + 3) f fd ["bag", "text"] spNear := by
  have GT : FnOk P w K mg base CX0 (k + 2) fT dT ["bag", "many"] spTake := ok_take T.FT T.mI
  have GO : FnOk P w K mg base CX0 (k + 2) fO dO ["bag", "things"] spOne := ok_one T.FO T.FT T.bT T.gT T.mI T.mL
  have GM : FnOk P w K mg base CX0 (k + 2) fM dM ["bag", "things"] spMixed := ok_mixed T.FM T.FT T.bT T.gT T.mI T.mL
  refine F.ok scNear (fun vs H Q E h => ?_) (fun cdv A outer s H vs Q E hr h => ?_)
  · obtain ⟨b, t, n, g, z, m, rfl, _⟩ := h
    rfl
  · obtain ⟨b, t, n, g, z, mx, rfl, hB, tm, hn, hg, hzz, hli, hmx, q⟩ := h
    refine ⟨_, C8.pss_cut (ps_par3 (i := 2) (j := 3) (l := 4) rfl scNear.nd rfl rfl rfl (by decide) (by decide) (by decide) rfl rfl rfl (pa_cons (pe_split (pv 1) pe_str) (pa_cons (pe_call GT hr (by rfl) T.gT T.FT.kp T.bT .nil pass0 (pa_cons (pv 0) (pa_cons pe_int pa_nil))) (pa_cons (pe_call GT hr (by rfl) T.gT T.FT.kp T.bT .nil pass0 (pa_cons (pv 0) (pa_cons (pe_op op_add (pe_callB call_len_str (by rfl) T.mL PySem.boot_len (pa_cons (pv 1) pa_nil)) pe_int) pa_nil))) pa_nil))) (by rfl))
      (C8.pss_cut (ps_set (i := 5) scNear.nd rfl (.inl rfl) (pe_call GT hr (by rfl) T.gT T.FT.kp T.bT .nil pass0 (pa_cons (pv 0) (pa_cons (pe_callB call_len_seq (by rfl) T.mL PySem.boot_len (pa_cons (pv 2) pa_nil)) pa_nil))))
      (C8.pss_cut (ps_set (i := 6) scNear.nd rfl (.inl rfl) (pe_lst (pa_cons pe_str (pa_cons pe_str (pa_cons pe_str (pa_cons pe_str (pa_cons pe_str (pa_cons pe_str (pa_cons pe_str pa_nil)))))))))
      (C8.pss_cut (ps_set (i := 6) scNear.nd rfl (.inl rfl) (pe_op op_cat (pv 6) (pe_lst (pa_cons pe_str (pa_cons pe_str (pa_cons pe_str pa_nil))))))
      (pss_cons (ps_if (pt_cmpR op_eq (pv 3) pe_int (nomark _)) (pss_one (ps_ret (pe_join pe_str (pe_op op_cat (pe_slice sl_list (pv 2) po_none (po_some (pv 5))) (pe_slice sl_list (pv 2) (po_some (pe_op op_add (pv 5) pe_int)) po_none))))) pss_nil)
      (pss_cons (ps_if (pt_cmpR op_eq (pv 3) pe_int (nomark _)) (pss_one (ps_ret (pe_join pe_str (pe_op op_cat (pe_op op_cat (pe_slice sl_list (pv 2) po_none (po_some (pv 5))) (pe_lst (pa_cons (pe_call GO hr (by rfl) T.gO T.FO.kp T.bO .nil pass0 (pa_cons (pv 0) (pa_cons (pv 6) pa_nil))) pa_nil))) (pe_slice sl_list (pv 2) (po_some (pe_op op_add (pv 5) pe_int)) po_none))))) pss_nil)
      (pss_cons (ps_if (pt_cmpR op_eq (pv 3) pe_int (nomark _)) (pss_one (ps_ret (pe_join pe_str (pe_op op_cat (pe_slice sl_list (pv 2) po_none (po_some (pe_op op_add (pv 5) pe_int))) (pe_slice sl_list (pv 2) (po_some (pv 5)) po_none))))) pss_nil)
      (pss_cons (ps_if (pt_cmpR op_eq (pv 3) pe_int (nomark _)) (pss_one (ps_ret (pe_join pe_str (pe_op op_cat (pe_op op_cat (pe_slice sl_list (pv 2) po_none (po_some pe_int)) (pe_call GM hr (by rfl) T.gM T.FM.kp T.bM .nil pass0 (pa_cons (pv 0) (pa_cons (pe_slice sl_list (pv 2) (po_some pe_int) (po_some (pe_un un_neg pe_int))) pa_nil)))) (pe_slice sl_list (pv 2) (po_some (pe_un un_neg pe_int)) po_none))))) pss_nil)
      (pss_cons (ps_if (pt_cmpR op_eq (pv 3) pe_int (nomark _)) (pss_one (ps_ret (pe_slice sl_str (pv 1) po_none (po_some (pv 4))))) pss_nil)
      (pss_cons (ps_set (i := 7) scNear.nd rfl (.inl rfl) (pe_call GO hr (by rfl) T.gO T.FO.kp T.bO .nil pass0 (pa_cons (pv 0) (pa_cons (pe_lst (pa_cons pe_str (pa_cons pe_str (pa_cons pe_str (pa_cons pe_str (pa_cons pe_str (pa_cons pe_str (pa_cons pe_str (pa_cons pe_str pa_nil))))))))) pa_nil))))
      (pss_one (ps_ret (pe_op op_add_str (pe_op op_add_str (pe_slice sl_str (pv 1) po_none (po_some (pv 4))) (pv 7)) (pe_slice sl_str (pv 1) (po_some (pe_op op_add (pv 4) (pe_callTy call_int1 (by rfl) T.mI (by decide +kernel) (pa_cons (pe_cmpR op_lt (pv 3) pe_int (nomark _)) pa_nil)))) po_none))))))))))))), ?_⟩
    obtain ⟨ob, hb⟩ := hB.lst
    have many := split_many (x := t) tl_nl (by decide +kernel)
    have ne := split_ne (x := t) tl_nl (by decide +kernel)
    have pos : 0 < (Txt.split t Nl).length := List.length_pos_iff.mpr ne
    have hx := tm.t.len
    have hln := tm.lines
    have hz : sizeLine = 16777216 := sizeLine_eq
    -- lines, way, at
    refine ⟨fun σ' H' => ∃ (p : Addr) (a : Nat) (wy : Int), σ' = [some (.ref b), some (.str t), some (.ref p), some (.int wy), some (.int (a : Nat)), none, none, none] ∧ a ≤ t.length ∧ p ≠ b ∧ Chb b H H' ∧ Bag H' b ∧ H' p = some (.lst ((Txt.split t Nl).map V.str)), ?_, ?_⟩
    · refine ⟨_, rfl, ⟨t, rfl⟩, t, Nl, rfl, rfl, by decide +kernel, by omega, fun p np => ?_⟩
      have pb : p ≠ b := (ne_of_none hb np).symm
      refine ⟨_, rfl, b, 9, rfl, hB.same (new_same np), by decide, by decide, fun H2 wy c2 B2 w0 w1 => ?_⟩
      refine ⟨_, rfl, _, rfl, t, rfl, by omega, _, _, rfl, rfl, b, _, rfl, B2, by omega, by omega, fun H3 a c3 B3 a0 a1 => ?_⟩
      obtain ⟨m, rfl⟩ := Int.eq_ofNat_of_zero_le a0
      exact ⟨_, _, _, rfl, p, m, wy, rfl, by omega, pb, ((Chb.new np).trans c2).trans c3, B3, c3 _ _ pb (c2 _ _ pb upd_same)⟩
    rintro σ' H1 ⟨p, a, wy, rfl, ha, pb, c1, B1, hp⟩
    -- line
    refine ⟨fun σ' H' => ∃ j : Nat, σ' = [some (.ref b), some (.str t), some (.ref p), some (.int wy), some (.int (a : Nat)), some (.int (j : Nat)), none, none] ∧ j < (Txt.split t Nl).length ∧ Chb b H H' ∧ Bag H' b ∧ H' p = some (.lst ((Txt.split t Nl).map V.str)), ?_, ?_⟩
    · refine ⟨_, rfl, _, rfl, p, _, rfl, .inl (.inl (.inl hp)), b, _, rfl, B1, by rw [List.length_map]; omega, by rw [List.length_map]; omega, fun H3 j c3 B3 a0 a1 => ?_⟩
      rw [List.length_map] at a1
      obtain ⟨m, rfl⟩ := Int.eq_ofNat_of_zero_le a0
      exact ⟨m, rfl, by omega, c1.trans c3, B3, c3 _ _ pb hp⟩
    clear c1 B1 hp
    rintro σ' H1 ⟨j, rfl, hj, c1, B1, hp⟩
    obtain ⟨o1, hb1⟩ := B1.lst
    -- odd
    refine ⟨fun σ' H' => ∃ r : Addr, σ' = [some (.ref b), some (.str t), some (.ref p), some (.int wy), some (.int (a : Nat)), some (.int (j : Nat)), some (.ref r), none] ∧ Same H1 H' ∧ H' r = some (.lst ((ODL.take 7).map V.str)), ?_, ?_⟩
    · exact ⟨by show 7 ≤ sizeLine; decide, fun r nr => ⟨r, rfl, new_same nr, upd_same⟩⟩
    rintro σ' H2 ⟨r0, rfl, s2, hr0⟩
    refine ⟨fun σ' H' => ∃ r : Addr, σ' = [some (.ref b), some (.str t), some (.ref p), some (.int wy), some (.int (a : Nat)), some (.int (j : Nat)), some (.ref r), none] ∧ Same H1 H' ∧ r ≠ b ∧ H' r = some (.lst (ODL.map V.str)), ?_, ?_⟩
    · refine ⟨_, rfl, by show 3 ≤ sizeLine; decide, fun m nm => ⟨r0, m, _, _, rfl, rfl, new_ne hr0 nm, upd_same, by show 7 + 3 ≤ sizeLine; decide, fun r nr => ⟨r, rfl, (s2.trans (new_same nm)).trans (new_same nr), ?_, upd_same⟩⟩⟩
      exact (ne_of_none ((s2.trans (new_same nm)) _ _ hb1) nr).symm
    clear hr0 s2
    rintro σ' H2 ⟨r, rfl, s2, rb, hr2⟩
    have c2 := c1.trans (Chb.same s2)
    have B2 := B1.same s2
    have hp2 := s2 _ _ hp
    clear c1 B1 hp s2 hb1
    obtain ⟨sl1, _, _⟩ := lines_sum tm.t
    have lv : ((Txt.split t Nl).map V.str).length = (Txt.split t Nl).length := List.length_map ..
    have tk : ∀ i : Nat, cutV ((Txt.split t Nl).map V.str) none (some ((i : Nat) : Int)) = ((Txt.split t Nl).take i).map V.str := fun i => by rw [cutV_take, List.map_take]
    have dr : ∀ i : Nat, cutV ((Txt.split t Nl).map V.str) (some ((i : Nat) : Int)) none = ((Txt.split t Nl).drop i).map V.str := fun i => by rw [cutV_drop, List.map_drop]
    have hNl : Nl.length = 1 := by decide +kernel
    have sk : ∀ i, (((Txt.split t Nl).take i).map (·.length)).sum ≤ n + 1 ∧ ((Txt.split t Nl).take i).length ≤ n + 1 := fun i => ⟨by have := sum_len_sub (List.take_sublist i (Txt.split t Nl)); omega, by have := (List.take_sublist i (Txt.split t Nl)).length_le; omega⟩
    have sd : ∀ i, (((Txt.split t Nl).drop i).map (·.length)).sum ≤ n + 1 ∧ ((Txt.split t Nl).drop i).length ≤ n + 1 := fun i => ⟨by have := sum_len_sub (List.drop_sublist i (Txt.split t Nl)); omega, by have := (List.drop_sublist i (Txt.split t Nl)).length_le; omega⟩
    obtain ⟨o2, hb2⟩ := B2.lst
    have e1 : ((j : Nat) : Int) + 1 = ((j + 1 : Nat) : Int) := rfl
    refine ⟨_, rfl, rfl, _, rfl, ite2 (fun e => ?_) (fun e => ?_)⟩
    · refine ⟨⟨_, rfl⟩, _, rfl, _, rfl, j, rfl, p, _, rfl, .inl (.inl hp2), fun m1 n1 => ?_⟩
      rw [tk]
      have s3 := new_same (o := .lst (((Txt.split t Nl).take j).map V.str)) n1
      have h3 : upd H2 m1 (.lst (((Txt.split t Nl).take j).map V.str)) m1 = some (.lst (((Txt.split t Nl).take j).map V.str)) := upd_same
      generalize upd H2 m1 (.lst (((Txt.split t Nl).take j).map V.str)) = H3 at s3 h3 ⊢
      refine ⟨_, rfl, _, rfl, j, 1, rfl, rfl, _, rfl, p, _, rfl, .inl (.inl (s3 _ _ hp2)), fun m2 n2 => ?_⟩
      rw [e1, dr]
      have s4 := new_same (o := .lst (((Txt.split t Nl).drop (j + 1)).map V.str)) n2
      have h4 : upd H3 m2 (.lst (((Txt.split t Nl).drop (j + 1)).map V.str)) m2 = some (.lst (((Txt.split t Nl).drop (j + 1)).map V.str)) := upd_same
      generalize upd H3 m2 (.lst (((Txt.split t Nl).drop (j + 1)).map V.str)) = H4 at s4 h4 ⊢
      have k1 := sk j
      have k2 := sd (j + 1)
      refine ⟨m1, m2, _, _, rfl, rfl, s4 _ _ h3, h4, by rw [List.length_map, List.length_map]; omega, fun m3 n3 => ?_⟩
      rw [← List.map_append]
      refine ⟨Nl, m3, _, rfl, rfl, .inl (.inl (.inl upd_same)), ?_, q _ _ (c2.trans (Chb.same ((s3.trans s4).trans (new_same n3)))) (B2.same ((s3.trans s4).trans (new_same n3))) (nearM_out tm hli hmx j)⟩
      rw [List.map_append, List.sum_append, List.length_append, hNl]; omega
    refine ⟨_, rfl, rfl, _, rfl, ite2 (fun e => ?_) (fun e => ?_)⟩
    · refine ⟨⟨_, rfl⟩, _, rfl, _, rfl, j, rfl, p, _, rfl, .inl (.inl hp2), fun m1 n1 => ?_⟩
      rw [tk]
      have s3 := new_same (o := .lst (((Txt.split t Nl).take j).map V.str)) n1
      have h3 : upd H2 m1 (.lst (((Txt.split t Nl).take j).map V.str)) m1 = some (.lst (((Txt.split t Nl).take j).map V.str)) := upd_same
      have m1b : m1 ≠ b := (ne_of_none hb2 n1).symm
      generalize upd H2 m1 (.lst (((Txt.split t Nl).take j).map V.str)) = H3 at s3 h3 ⊢
      refine ⟨_, rfl, _, rfl, b, r, _, rfl, B2.same s3, s3 _ _ hr2, rb, by decide, by decide, fun H4 x c4 B4 hx => ?_⟩
      obtain ⟨ox, hox, rfl⟩ := List.mem_map.mp hx
      refine ⟨by show 1 ≤ sizeLine; decide, fun m2 n2 => ?_⟩
      have s5 := new_same (o := .lst [V.str ox]) n2
      have h5 : upd H4 m2 (.lst [V.str ox]) m2 = some (.lst ([ox].map V.str)) := upd_same
      generalize upd H4 m2 (.lst [V.str ox]) = H5 at s5 h5 ⊢
      have k1 := sk j
      have k2 := sd (j + 1)
      refine ⟨m1, m2, _, _, rfl, rfl, s5 _ _ (c4 _ _ m1b h3), h5, by rw [List.length_map, List.length_map]; show _ + 1 ≤ _; omega, fun m3 n3 => ?_⟩
      rw [← List.map_append]
      have s6 := new_same (o := .lst (((Txt.split t Nl).take j ++ [ox]).map V.str)) n3
      have h6 : upd H5 m3 (.lst (((Txt.split t Nl).take j ++ [ox]).map V.str)) m3 = some (.lst (((Txt.split t Nl).take j ++ [ox]).map V.str)) := upd_same
      generalize upd H5 m3 (.lst (((Txt.split t Nl).take j ++ [ox]).map V.str)) = H6 at s6 h6 ⊢
      refine ⟨_, rfl, _, rfl, j, 1, rfl, rfl, _, rfl, p, _, rfl, .inl (.inl (s6 _ _ (s5 _ _ (c4 _ _ pb (s3 _ _ hp2))))), fun m4 n4 => ?_⟩
      rw [e1, dr]
      have s7 := new_same (o := .lst (((Txt.split t Nl).drop (j + 1)).map V.str)) n4
      have h7 : upd H6 m4 (.lst (((Txt.split t Nl).drop (j + 1)).map V.str)) m4 = some (.lst (((Txt.split t Nl).drop (j + 1)).map V.str)) := upd_same
      generalize upd H6 m4 (.lst (((Txt.split t Nl).drop (j + 1)).map V.str)) = H7 at s7 h7 ⊢
      have ol := (odl_ok ox hox).l
      refine ⟨m3, m4, _, _, rfl, rfl, s7 _ _ h6, h7, by rw [List.length_map, List.length_map, List.length_append, List.length_singleton]; omega, fun m5 n5 => ?_⟩
      rw [← List.map_append]
      refine ⟨Nl, m5, _, rfl, rfl, .inl (.inl (.inl upd_same)), ?_, q _ _ (((c2.trans (Chb.same s3)).trans c4).trans (Chb.same (((s5.trans s6).trans s7).trans (new_same n5)))) (B4.same (((s5.trans s6).trans s7).trans (new_same n5))) (nearM_odd tm hli hmx j (odl_ok ox hox) (odl_nw ox hox) hg)⟩
      rw [List.map_append, List.map_append, List.sum_append, List.sum_append, List.length_append, List.length_append, hNl, List.map_cons, List.map_nil, List.sum_cons, List.sum_nil, List.length_singleton]; omega
    refine ⟨_, rfl, rfl, _, rfl, ite2 (fun e => ?_) (fun e => ?_)⟩
    · refine ⟨⟨_, rfl⟩, _, rfl, _, rfl, j, 1, rfl, rfl, _, rfl, p, _, rfl, .inl (.inl hp2), fun m1 n1 => ?_⟩
      rw [e1, tk]
      have s3 := new_same (o := .lst (((Txt.split t Nl).take (j + 1)).map V.str)) n1
      have h3 : upd H2 m1 (.lst (((Txt.split t Nl).take (j + 1)).map V.str)) m1 = some (.lst (((Txt.split t Nl).take (j + 1)).map V.str)) := upd_same
      generalize upd H2 m1 (.lst (((Txt.split t Nl).take (j + 1)).map V.str)) = H3 at s3 h3 ⊢
      refine ⟨_, rfl, _, rfl, j, rfl, p, _, rfl, .inl (.inl (s3 _ _ hp2)), fun m2 n2 => ?_⟩
      rw [dr]
      have s4 := new_same (o := .lst (((Txt.split t Nl).drop j).map V.str)) n2
      have h4 : upd H3 m2 (.lst (((Txt.split t Nl).drop j).map V.str)) m2 = some (.lst (((Txt.split t Nl).drop j).map V.str)) := upd_same
      generalize upd H3 m2 (.lst (((Txt.split t Nl).drop j).map V.str)) = H4 at s4 h4 ⊢
      have k1 := sk (j + 1)
      have k2 := sd j
      refine ⟨m1, m2, _, _, rfl, rfl, s4 _ _ h3, h4, by rw [List.length_map, List.length_map]; omega, fun m3 n3 => ?_⟩
      rw [← List.map_append]
      refine ⟨Nl, m3, _, rfl, rfl, .inl (.inl (.inl upd_same)), ?_, q _ _ (c2.trans (Chb.same ((s3.trans s4).trans (new_same n3)))) (B2.same ((s3.trans s4).trans (new_same n3))) (nearM_twice tm hli hmx j)⟩
      rw [List.map_append, List.sum_append, List.length_append, hNl]; omega
    refine ⟨_, rfl, rfl, _, rfl, ite2 (fun e => ?_) (fun e => ?_)⟩
    · refine ⟨⟨_, rfl⟩, _, rfl, 1, rfl, p, _, rfl, .inl (.inl hp2), fun m1 n1 => ?_⟩
      rw [show (1 : Int) = ((1 : Nat) : Int) from rfl, tk]
      have s3 := new_same (o := .lst (((Txt.split t Nl).take 1).map V.str)) n1
      have h3 : upd H2 m1 (.lst (((Txt.split t Nl).take 1).map V.str)) m1 = some (.lst (((Txt.split t Nl).take 1).map V.str)) := upd_same
      have m1b : m1 ≠ b := (ne_of_none hb2 n1).symm
      generalize upd H2 m1 (.lst (((Txt.split t Nl).take 1).map V.str)) = H3 at s3 h3 ⊢
      have hb3 := s3 _ _ hb2
      refine ⟨_, rfl, _, rfl, 1, rfl, 1, rfl, _, rfl, p, _, rfl, .inl (.inl (s3 _ _ hp2)), fun m2 n2 => ?_⟩
      have md : cutV ((Txt.split t Nl).map V.str) (some 1) (some (-1)) = (((Txt.split t Nl).drop 1).dropLast).map V.str := by
        refine (cutV_mid _ 1).trans ?_
        rw [← List.map_drop, List.map_dropLast]
      rw [show (-(1 : Int)) = -1 from rfl, md]
      have m2b : m2 ≠ b := (ne_of_none hb3 n2).symm
      have lm : (((Txt.split t Nl).drop 1).dropLast).length ≤ 60 := by rw [List.length_dropLast, List.length_drop]; omega
      refine ⟨b, m2, _, rfl, (B2.same s3).same (new_same n2), upd_same, m2b, by rw [List.length_map]; exact lm, fun H4 r5 ys c4 B4 nr hr5 pm r5b => ?_⟩
      obtain ⟨L, pL, rfl⟩ := perm_map_inv pm _ rfl
      have h34 := c4 _ _ m1b (new_ne (u := .lst ((((Txt.split t Nl).drop 1).dropLast).map V.str)) h3 n2)
      have hp4 := c4 _ _ pb (new_ne (u := .lst ((((Txt.split t Nl).drop 1).dropLast).map V.str)) (s3 _ _ hp2) n2)
      have k1 := sk 1
      have sub := (List.dropLast_sublist ((Txt.split t Nl).drop 1)).trans (List.drop_sublist 1 (Txt.split t Nl))
      have u1 := sum_len_sub sub
      have u2 := sum_perm (f := (·.length)) pL
      have u3 := pL.length_eq
      refine ⟨m1, r5, _, _, rfl, rfl, h34, hr5, by rw [List.length_map, List.length_map]; omega, fun m3 n3 => ?_⟩
      rw [← List.map_append]
      have s6 := new_same (o := .lst (((Txt.split t Nl).take 1 ++ L).map V.str)) n3
      have h6 : upd H4 m3 (.lst (((Txt.split t Nl).take 1 ++ L).map V.str)) m3 = some (.lst (((Txt.split t Nl).take 1 ++ L).map V.str)) := upd_same
      generalize upd H4 m3 (.lst (((Txt.split t Nl).take 1 ++ L).map V.str)) = H6 at s6 h6 ⊢
      refine ⟨_, rfl, 1, rfl, _, rfl, p, _, rfl, .inl (.inl (s6 _ _ hp4)), fun m4 n4 => ?_⟩
      have ml : cutV ((Txt.split t Nl).map V.str) (some (-1)) none = ((Txt.split t Nl).drop ((Txt.split t Nl).length - 1)).map V.str := by rw [cutV_last, List.length_map, List.map_drop]
      rw [show (-(1 : Int)) = -1 from rfl, ml]
      have s7 := new_same (o := .lst (((Txt.split t Nl).drop ((Txt.split t Nl).length - 1)).map V.str)) n4
      have h7 : upd H6 m4 (.lst (((Txt.split t Nl).drop ((Txt.split t Nl).length - 1)).map V.str)) m4 = some (.lst (((Txt.split t Nl).drop ((Txt.split t Nl).length - 1)).map V.str)) := upd_same
      generalize upd H6 m4 (.lst (((Txt.split t Nl).drop ((Txt.split t Nl).length - 1)).map V.str)) = H7 at s7 h7 ⊢
      have k2 := sd ((Txt.split t Nl).length - 1)
      refine ⟨m3, m4, _, _, rfl, rfl, s7 _ _ h6, h7, by rw [List.length_map, List.length_map, List.length_append]; omega, fun m5 n5 => ?_⟩
      rw [← List.map_append]
      refine ⟨Nl, m5, _, rfl, rfl, .inl (.inl (.inl upd_same)), ?_, q _ _ ((((c2.trans (Chb.same s3)).trans (Chb.new n2)).trans c4).trans (Chb.same ((s6.trans s7).trans (new_same n5)))) (B4.same ((s6.trans s7).trans (new_same n5))) (nearM_mixed tm hli hmx pL)⟩
      rw [List.map_append, List.map_append, List.sum_append, List.sum_append, List.length_append, List.length_append, hNl]; omega
    refine ⟨_, rfl, rfl, _, rfl, ite2 (fun e => ?_) (fun e => ?_)⟩
    · exact ⟨_, rfl, _, rfl, a, rfl, t, rfl, by omega, q _ _ c2 B2 (nearM_cut tm hli hmx a)⟩
    refine ⟨_, rfl, by show 8 ≤ sizeLine; decide, fun m1 n1 => ?_⟩
    have m1b : m1 ≠ b := (ne_of_none hb2 n1).symm
    refine ⟨b, m1, SGL.map V.str, rfl, B2.same (new_same n1), upd_same, m1b, by decide, by decide, fun H3 x c3 B3 hx => ?_⟩
    obtain ⟨sx, hsx, rfl⟩ := List.mem_map.mp hx
    obtain ⟨⟨sx1, sx3⟩, sx2⟩ := sgl_ok sx hsx
    have cc := c2.trans ((Chb.new n1).trans c3)
    have la : (cutS t none (some ((a : Nat) : Int))).length ≤ t.length := cutS_length _ _ _
    have lt : ∀ lo, (cutS t lo none).length ≤ t.length := fun lo => cutS_length _ _ _
    obtain ⟨bb, hbb⟩ : ∃ c : Nat, ∀ k : Bool, k = decide (wy < 7) → ((a : Nat) : Int) + (if k = true then 1 else 0) = ((c : Nat) : Int) ∧ a ≤ c := by
      by_cases h6 : wy < 7
      · exact ⟨a + 1, fun k hk => by rw [hk, decide_eq_true h6]; exact ⟨rfl, by omega⟩⟩
      · exact ⟨a, fun k hk => by rw [hk, decide_eq_false h6]; exact ⟨by simp, Nat.le_refl _⟩⟩
    obtain ⟨eb, lb⟩ := hbb _ rfl
    refine ⟨_, rfl, _, rfl, a, rfl, t, rfl, by omega, _, rfl, _, _, rfl, rfl, by omega, _, rfl, _, rfl, _, rfl, wy, 7, rfl, rfl, .inr ⟨_, rfl, _, _, rfl, rfl, _, rfl, t, rfl, by omega, ?_⟩⟩
    rw [eb]
    refine ⟨_, _, rfl, rfl, ?_, q _ _ cc B3 (nearM_sign tm hli hmx a bb lb sx1 sx2 sx3 hg)⟩
    rw [strLen_append]
    have := lt (some ((bb : Nat) : Int))
    omega
end
end V73
/-! Names, paths, shelves, as the law knows them. -/
namespace V73
open PySem PySem.Spec PyProof.Rows L2 TL RX DK
abbrev sLNum : Stmt := topS 25
abbrev sLName : Stmt := topS 26
abbrev sLPath : Stmt := topS 27
abbrev sLShelf : Stmt := topS 28
theorem scLNum : FnScope ["path", "head", "word", "sign"] ["path", "head"] (defScope sLNum) := ⟨rfl, rfl, rfl, by decide +kernel, rfl, by decide +kernel, by decide +kernel⟩
theorem scLName : FnScope ["word", "signs", "sign"] ["word"] (defScope sLName) := ⟨rfl, rfl, rfl, by decide +kernel, rfl, by decide +kernel, by decide +kernel⟩
theorem scLPath : FnScope ["thing", "word"] ["thing"] (defScope sLPath) := ⟨rfl, rfl, rfl, by decide +kernel, rfl, by decide +kernel, by decide +kernel⟩
theorem scLShelf : FnScope ["thing"] ["thing"] (defScope sLShelf) := ⟨rfl, rfl, rfl, by decide +kernel, rfl, by decide +kernel, by decide +kernel⟩
/-- the law's defs of these -/
structure Ln (K : PySem.W.Frag) (mg : PySem.Str → Option Value) (fN fP fB fS : Addr) (dN dP dB dS : FuncData) : Prop where
  FN : Fun K "_law_is_name" "_law_is_name" sLName fN dN
  bN : Binds K dN ["word"] []
  gN : mg "_law_is_name" = some (.ref fN)
  FP : Fun K "_law_is_path" "_law_is_path" sLPath fP dP
  bP : Binds K dP ["thing"] []
  gP : mg "_law_is_path" = some (.ref fP)
  FB : Fun K "_law_number_of" "_law_number_of" sLNum fB dB
  bB : Binds K dB ["path", "head"] []
  gB : mg "_law_number_of" = some (.ref fB)
  FS : Fun K "_law_is_shelf" "_law_is_shelf" sLShelf fS dS
  bS : Binds K dS ["thing"] []
  gS : mg "_law_is_shelf" = some (.ref fS)
  mS : mg "isinstance" = none
  mT : mg "str" = none
  mL : mg "len" = none
  mI : mg "int" = none
section
variable {P : Program} {w : World} {K : PySem.W.Frag} {mg : PySem.Str → Option Value} {base : Heap}
variable {fN fP fB fS : Addr} {dN dP dB dS : FuncData}
def spNumW : Sp := fun vs H Q _ => ∃ h x : PySem.Str, vs = [.str x, .str h] ∧ x.length ≤ 1000000 ∧ h.length ≤ 1000000 ∧ (allD (behind h x) = true → (behind h x).length ≤ 560) ∧ ∀ H', Same H H' → Q (ov (numW h x)) H'
theorem ok_numw {f : Addr} {fd : FuncData} {k : Nat} (F : Fun K "_law_number_of" "_law_number_of" sLNum f fd) (mT : mg "str" = none) (mL : mg "len" = none) (mI : mg "int" = none) : FnOk P w K mg base CX0 (k + 1) f fd ["path", "head"] spNumW := by
  refine F.ok scLNum (fun vs H Q E h => ?_) (fun cdv A outer s H vs Q E hr h => ?_)
  · obtain ⟨h, x, rfl, _⟩ := h
    rfl
  · obtain ⟨h, x, rfl, hx, hh, few, q⟩ := h
    refine ⟨_, pss_cons (ps_set (i := 2) scLNum.nd rfl (.inl rfl) (pe_slice sl_str (pv 0) (po_some (pe_callB call_len_str (by rfl) mL PySem.boot_len (pa_cons (pv 1) pa_nil))) po_none))
      (pss_cons (ps_if (PW.pt (pw_or (pt_cmpR op_ne (pe_slice sl_str (pv 0) po_none (po_some (pe_callB call_len_str (by rfl) mL PySem.boot_len (pa_cons (pv 1) pa_nil)))) (pv 1) (nomark _))
          (pw_or (pt_cmpR op_eq (pv 2) pe_str (nomark _))
          (pw_or1 (pt_cmpR (op_neL0 hr.units0) (pe_lc (own := [("sign", 3)]) (g := gName 3) rfl scLNum.nd (pi_str (pv 2)) (blkOk_by (N := ["path", "head", "word", "sign"]) (sc := defScope sLNum) (by decide +kernel))
            (fun _ _ _ _ _ => pg_name (i := 3) scLNum.nd rfl (Or.inl rfl)) (fun _ _ _ _ _ => pts_one (pt_mid (pt_cmpR op_notIn_sign (pv 3) pe_str (by rfl)))) (fun _ _ _ _ _ => pe_mid (pv 3))) (pe_lst pa_nil) (nomark _)))))) (pss_one (ps_ret pe_non)) pss_nil)
      (pss_one (ps_ret (pe_ifExp (pt_cmpR op_eq (pe_callTy call_str_int (by rfl) mT (by decide +kernel) (pa_cons (pe_callTy call_int_str (by rfl) mI (by decide +kernel) (pa_cons (pv 2) pa_nil)) pa_nil)) (pv 2) (nomark _))
        (pe_callTy call_int_str (by rfl) mI (by decide +kernel) (pa_cons (pv 2) pa_nil)) pe_non)))), ?_⟩
    have hz : sizeLine = 16777216 := sizeLine_eq
    refine ⟨_, rfl, _, rfl, h, rfl, by omega, _, rfl, x, rfl, by omega, ?_⟩
    rw [cut_behind]
    refine ⟨_, rfl, _, rfl, h, rfl, by omega, _, rfl, x, rfl, by omega, _, rfl, rfl, _, rfl, ?_⟩
    rw [cut_begins]
    by_cases b : begins h x = true
    · rw [b]
      have wl : (behind h x).length ≤ 1000000 := by
        have := congrArg PySem.Str.length (begins_eq b)
        rw [strLen_append] at this
        omega
      have hw : ∃ w, w = behind h x := ⟨_, rfl⟩
      obtain ⟨w, hw⟩ := hw
      rw [← hw] at wl few ⊢
      have qn : ∀ H', Same H H' → ¬ (allD w = true ∧ good w = true) → Q .non H' := fun H' s n => by
        have z := q H' s
        unfold numW at z
        rw [← hw, if_neg (fun y => n y.2)] at z
        exact z
      refine ⟨_, rfl, rfl, _, rfl, ?_⟩
      by_cases e0 : w.length = 0
      · have ew : w = "" := str_nil.mpr (List.length_eq_zero_iff.mp (by rw [← len_tl]; exact e0))
        rw [decide_eq_true (show V.str w = V.str "" by rw [ew])]
        refine qn H (Same.refl _) fun y => ?_
        have g := y.1
        unfold allD at g
        rw [decide_eq_false (by omega)] at g
        exact Bool.noConfusion g
      · rw [decide_eq_false (show ¬ V.str w = V.str "" from fun z => e0 (by injection z with z; rw [z]; rfl))]
        refine ⟨.str w, rfl, w, rfl, fun D nD => ?_⟩
        refine lc_filt (walk_sgs (z := w)) (notIn Fg) (fun x y _ => y = x) nD (sgs_len w) (by omega) (fun _ _ => trivial) (fun _ _ _ _ _ h => h) (fun _ => rfl) (fun j v Hc hv s _ => ?_) (fun H' ys s hD hp => ?_)
        · unfold sgs at hv
          rw [List.getElem?_map] at hv
          obtain ⟨c, hc, rfl⟩ := Option.map_eq_some_iff.mp hv
          exact ⟨⟨_, rfl, c, Fg, rfl, rfl, _, rfl, Same.refl _, (notIn_one Fg c).symm⟩, fun _ H3 s3 => ⟨_, rfl, Same.refl _, rfl⟩⟩
        · have e := pd_eq hp
          refine ⟨by show 0 ≤ sizeLine; exact Nat.zero_le _, fun r nr => ⟨D, r, ys, rfl, rfl, new_ne hD nr, upd_same, _, rfl, ?_⟩⟩
          have s2 := s.trans (new_same (o := .lst []) nr)
          rw [e, not_none]
          by_cases ea : allIn Fg w.cps.toList = true
          · rw [ea]
            have ad : allD w = true := by unfold allD; rw [decide_eq_true (show 1 ≤ w.length by omega), ea]; rfl
            have l5 := few ad
            obtain ⟨i1, i2, i3⟩ := allD_val ad (by omega)
            have nb := num_back ad (by omega)
            refine ⟨_, rfl, w, _, rfl, i1, by omega, _, rfl, log_le (k := w.length) (by rw [i2]; exact i3) (by omega), _, rfl, rfl, _, rfl, ?_⟩
            by_cases g : good w = true
            · rw [decide_eq_true (show V.str (PySem.Str.ofString (toString (val w))) = V.str w from congrArg V.str (nb.mpr g))]
              refine ⟨_, rfl, w, _, rfl, i1, by omega, ?_⟩
              have z := q _ s2
              unfold numW at z
              rw [← hw, if_pos ⟨b, ad, g⟩] at z
              exact z
            · rw [decide_eq_false (show ¬ V.str (PySem.Str.ofString (toString (val w))) = V.str w from fun z => g (nb.mp (by injection z)))]
              exact qn _ s2 fun y => g y.2
          · have ea' : allIn Fg w.cps.toList = false := by simpa using ea
            rw [ea']
            refine qn _ s2 fun y => ?_
            have g := y.1
            unfold allD at g
            rw [ea', Bool.and_false] at g
            exact Bool.noConfusion g
    · have b' : begins h x = false := by simpa using b
      rw [b']
      have z := q H (Same.refl _)
      unfold numW at z
      rw [if_neg (fun y => b y.1)] at z
      exact z
theorem ok_lname {f : Addr} {fd : FuncData} {k : Nat} (F : Fun K "_law_is_name" "_law_is_name" sLName f fd) (mL : mg "len" = none) : FnOk P w K mg base CX0 (k + 1) f fd ["word"] spNm := by
  refine F.ok scLName (fun vs H Q E h => ?_) (fun cdv A outer s H vs Q E hr h => ?_)
  · obtain ⟨x, rfl, _⟩ := h
    rfl
  · obtain ⟨x, rfl, hx, q⟩ := h
    refine ⟨_, pss_cons (ps_set (i := 1) scLName.nd rfl (.inr rfl) pe_str)
      (pss_cons (ps_if (PW.pt (pw_or (pt_not (pt_chain op_le op_le pe_int (pe_callB call_len_str (by rfl) mL PySem.boot_len (pa_cons (pv 0) pa_nil)) pe_int))
          (pw_or1 (pt_cmpR op_notIn_sign (pe_ix ix_str (pv 0) pe_int (fun _ _ => rfl)) (pv 1) (by rfl))))) (pss_one (ps_ret pe_bl)) pss_nil)
      (pss_one (ps_ret (pe_cmpR (op_eqL0 hr.units0) (pe_lc (own := [("sign", 2)]) (g := gName 2) rfl scLName.nd (pi_str (pv 0)) (blkOk_by (N := ["word", "signs", "sign"]) (sc := defScope sLName) (by decide +kernel))
          (fun _ _ _ _ _ => pg_name (i := 2) scLName.nd rfl (Or.inl rfl)) (fun _ _ _ _ _ => pts_one (pt_mid (pt_cmpR op_notIn_sign (pv 2) (pe_op op_add_str (pv 1) pe_str) (by rfl)))) (fun _ _ _ _ _ => pe_mid (pv 2))) (pe_lst pa_nil) (nomark _))))), ?_⟩
    have hz : sizeLine = 16777216 := sizeLine_eq
    have en : Lt ++ ("0123456789-" : PySem.Str) = Nz := by decide +kernel
    refine ⟨_, rfl, x, rfl, by omega, 1, (x.length : Nat), rfl, rfl, _, rfl, ite2 (fun e1 => ?_) (fun e1 => ?_)⟩
    · have h1 : 1 ≤ x.length := by have := of_decide_eq_true e1; omega
      refine ⟨(x.length : Nat), 20, rfl, rfl, _, rfl, ?_⟩
      by_cases h2 : x.length ≤ 20
      · rw [decide_eq_true (show ((x.length : Nat) : Int) ≤ 20 by omega)]
        obtain ⟨c, hc0, hhd⟩ := head_at h1
        have qq : ∀ H', Same H H' → Q (.bl (decide (c ∈ Lt.cps.toList) && allIn Nz x.cps.toList)) H' := fun H' s => by
          have z := q H' s
          unfold isNm at z
          rw [decide_eq_true h1, decide_eq_true h2, hhd] at z
          exact z
        refine ⟨.str x, rfl, x, 0, c, rfl, rfl, by omega, hc0, _, rfl, c, Lt, rfl, rfl, _, rfl, ?_⟩
        by_cases e3 : decide (c ∈ Lt.cps.toList) = true
        · rw [e3] at qq ⊢
          refine ⟨.str x, rfl, x, rfl, fun D nD => ?_⟩
          refine lc_filt (walk_sgs (z := x)) (notIn Nz) (fun x y _ => y = x) nD (sgs_len x) (by omega) (fun _ _ => trivial) (fun _ _ _ _ _ h => h) (fun _ => rfl) (fun j v Hc hv s _ => ?_) (fun H' ys s hD hp => ?_)
          · unfold sgs at hv
            rw [List.getElem?_map] at hv
            obtain ⟨c, hc, rfl⟩ := Option.map_eq_some_iff.mp hv
            refine ⟨⟨_, rfl, _, rfl, _, _, rfl, rfl, by decide +kernel, c, Nz, rfl, ?_, _, rfl, Same.refl _, (notIn_one Nz c).symm⟩, fun _ H3 s3 => ⟨_, rfl, Same.refl _, rfl⟩⟩
            exact congrArg V.str en
          · have e := pd_eq hp
            refine ⟨by show 0 ≤ sizeLine; exact Nat.zero_le _, fun r nr => ⟨D, r, ys, rfl, rfl, new_ne hD nr, upd_same, ?_⟩⟩
            rw [e, not_none]
            exact qq _ (s.trans (new_same nr))
        · have e4 : decide (c ∈ Lt.cps.toList) = false := by simpa using e3
          rw [e4] at qq ⊢
          exact qq H (Same.refl _)
      · rw [decide_eq_false (show ¬ ((x.length : Nat) : Int) ≤ 20 by omega)]
        have z := q H (Same.refl _)
        unfold isNm at z
        rw [decide_eq_false h2, Bool.and_false] at z
        exact z
    · have h1 : ¬ 1 ≤ x.length := fun z => e1 (decide_eq_true (by omega))
      have z := q H (Same.refl _)
      unfold isNm at z
      rw [decide_eq_false h1] at z
      exact ⟨_, rfl, z⟩
theorem ok_lpath {f : Addr} {fd : FuncData} {k : Nat} (F : Fun K "_law_is_path" "_law_is_path" sLPath f fd) (FN : Fun K "_law_is_name" "_law_is_name" sLName fN dN) (bN : Binds K dN ["word"] []) (gN : mg "_law_is_name" = some (.ref fN))
    (mS : mg "isinstance" = none) (mT : mg "str" = none) (mL : mg "len" = none) : FnOk P w K mg base CX0 (k + 2) f fd ["thing"] spPath := by
  have GN : FnOk P w K mg base CX0 (k + 1) fN dN ["word"] spNm := ok_lname FN mL
  refine F.ok scLPath (fun vs H Q E h => ?_) (fun cdv A outer s H vs Q E hr h => ?_)
  · obtain ⟨x, rfl, _⟩ := h
    rfl
  · obtain ⟨x, rfl, hx, q⟩ := h
    refine ⟨_, pss_one (ps_ret (pe_and (pe_callB call_isi (by rfl) mS (by decide +kernel) (pa_cons (pv 0) (pa_cons (pe_bltn (v := .ty "str") (u := .type "str") (by rfl) mT (by decide +kernel) rfl) pa_nil)))
      (pe_one (pe_cmpR (op_eqL0 hr.units0) (pe_lc (own := [("word", 1)]) (g := gName 1) rfl scLPath.nd (pi_list (pe_split (pv 0) pe_str)) (blkOk_by (N := ["thing", "word"]) (sc := defScope sLPath) (by decide +kernel))
        (fun _ _ _ _ _ => pg_name (i := 1) scLPath.nd rfl (Or.inl rfl)) (fun _ _ _ _ _ => pts_one (pt_mid (pt_not (pt_val (pe_call GN hr (by rfl) gN FN.kp bN .nil pass0 (pa_cons (pv 1) pa_nil)))))) (fun _ _ _ _ _ => pe_mid (pv 1))) (pe_lst pa_nil) (nomark _))))), ?_⟩
    have t3 := (kits K "str" (by decide)).2.2.1
    have hz : sizeLine = 16777216 := sizeLine_eq
    refine ⟨_, rfl, .str x, .ty "str", _, _, _, rfl, .ty "str", .base (.str x), t3, _, rfl, ?_⟩
    rw [if_pos (by decide)]
    refine ⟨_, rfl, ⟨x, rfl⟩, x, Sl, rfl, rfl, by decide +kernel, by omega, fun l nl => ⟨l, rfl, ⟨_, .inl (.inl upd_same)⟩, fun D nD => ?_⟩⟩
    have hl : upd H l (.lst ((Txt.split x Sl).map V.str)) l = some (.lst ((Txt.split x Sl).map V.str)) := upd_same
    have sl := new_same (o := .lst ((Txt.split x Sl).map V.str)) nl
    generalize upd H l (.lst ((Txt.split x Sl).map V.str)) = H1 at nD hl sl ⊢
    have many := split_many (x := x) tl_sl (by decide +kernel)
    refine lc_filt (walk_list (K := K) (a := l) (xs := (Txt.split x Sl).map V.str)) noNm (fun x y _ => y = x) nD (by simp) (by rw [List.length_map]; omega) (fun H s => .inl (.inl (s _ _ hl))) (fun _ _ _ _ _ h => h) (fun _ => rfl) (fun j v Hc hv s _ => ?_) (fun H' ys s hD hp => ?_)
    · rw [List.getElem?_map] at hv
      obtain ⟨y, hy, rfl⟩ := Option.map_eq_some_iff.mp hv
      have yl := split_len (x := x) tl_sl (by decide +kernel) (List.mem_of_getElem? hy)
      exact ⟨⟨_, rfl, y, rfl, by omega, fun H2 s2 => ⟨_, rfl, s2, rfl⟩⟩, fun _ H3 s3 => ⟨_, rfl, Same.refl _, rfl⟩⟩
    · have e := pd_eq hp
      refine ⟨by show 0 ≤ sizeLine; exact Nat.zero_le _, fun r nr => ⟨D, r, ys, rfl, rfl, new_ne hD nr, upd_same, ?_⟩⟩
      rw [e, no_nms]
      exact q _ ((sl.trans s).trans (new_same nr))
def spShelfW : Sp := fun vs H Q _ => ∃ x : PySem.Str, vs = [.str x] ∧ x.length ≤ 1000000 ∧ W dg x ≤ 560 ∧ ∀ H', Same H H' → Q (.bl (isShelf x)) H'
theorem ok_lshelf {k : Nat} (T : Ln K mg fN fP fB fS dN dP dB dS) : FnOk P w K mg base CX0 (k + 3) fS dS ["thing"] spShelfW := by
  have GB : FnOk P w K mg base CX0 (k + 2) fB dB ["path", "head"] spNumW := ok_numw T.FB T.mT T.mL T.mI
  have GP : FnOk P w K mg base CX0 (k + 2) fP dP ["thing"] spPath := ok_lpath T.FP T.FN T.bN T.gN T.mS T.mT T.mL
  refine T.FS.ok scLShelf (fun vs H Q E h => ?_) (fun cdv A outer s H vs Q E hr h => ?_)
  · obtain ⟨x, rfl, _⟩ := h
    rfl
  · obtain ⟨x, rfl, hx, hd, q⟩ := h
    refine ⟨_, pss_one (ps_ret (pe_and (pe_callB call_isi (by rfl) T.mS (by decide +kernel) (pa_cons (pv 0) (pa_cons (pe_bltn (v := .ty "str") (u := .type "str") (by rfl) T.mT (by decide +kernel) rfl) pa_nil)))
      (pe_and (pe_cmpR op_notN (pe_call GB hr (by rfl) T.gB T.FB.kp T.bB .nil pass0 (pa_cons (pv 0) (pa_cons pe_str pa_nil))) pe_non (nomark _))
      (pe_one (pe_call GP hr (by rfl) T.gP T.FP.kp T.bP .nil pass0 (pa_cons (pv 0) pa_nil)))))), ?_⟩
    have t3 := (kits K "str" (by decide)).2.2.1
    refine ⟨_, rfl, .str x, .ty "str", _, _, _, rfl, .ty "str", .base (.str x), t3, _, rfl, ?_⟩
    rw [if_pos (by decide)]
    refine ⟨_, rfl, ShP, x, rfl, hx, by decide +kernel, fun ad => ?_, fun H1 s1 => ?_⟩
    · have h1 := W_digits (x := behind ShP x) (by unfold allD at ad; rw [Bool.and_eq_true] at ad; exact ad.2)
      have h2 : W dg (behind ShP x) ≤ W dg x := sum_sub (List.drop_sublist _ _)
      omega
    · have sl := shelf_law x
      cases e : numW ShP x with
      | none =>
        rw [e] at sl
        refine ⟨rfl, _, rfl, ?_⟩
        rw [if_neg (by decide)]
        have z := q H1 s1
        rw [← sl] at z
        exact z
      | some i =>
        rw [e] at sl
        refine ⟨rfl, _, rfl, ?_⟩
        rw [if_pos (show (!decide (ov (some i) = V.non)) = true from rfl)]
        refine ⟨_, rfl, x, rfl, hx, fun H2 s2 => ?_⟩
        have z := q H2 (s1.trans s2)
        rw [← sl] at z
        exact z
end
end V73
/-! The manifest, as the law shows it. -/
namespace V73
open PySem PySem.Spec PyProof.Rows L2 TL RX DK
abbrev sLMfT : Stmt := topS 29
theorem scLMfT : FnScope ["manifest", "lines", "entry"] ["manifest"] (defScope sLMfT) := ⟨rfl, rfl, rfl, by decide +kernel, rfl, by decide +kernel, by decide +kernel⟩
section
variable {P : Program} {w : World} {K : PySem.W.Frag} {mg : PySem.Str → Option Value} {base : Heap}
theorem ok_lmft {f : Addr} {fd : FuncData} {k : Nat} (F : Fun K "_law_manifest_text" "_law_manifest_text" sLMfT f fd) (mL : mg "len" = none) (mT : mg "str" = none) : FnOk P w K mg base CX0 (k + 1) f fd ["manifest"] spMfT := by
  refine F.ok scLMfT (fun vs H Q E h => ?_) (fun cdv A outer s H vs Q E hr h => ?_)
  · obtain ⟨v, g, rfl, _⟩ := h
    rfl
  · obtain ⟨v, g, rfl, ⟨a, p, vs, rfl, ha, hp, hs⟩, gk, q⟩ := h
    refine ⟨_, pss_cons (ps_set (i := 1) scLMfT.nd rfl (.inl rfl) (pe_op op_cat (pe_lst (pa_cons (pe_op op_add_str pe_str (pe_callTy call_str_int (by rfl) mT (by decide +kernel) (pa_cons (pe_callB call_len_seq (by rfl) mL PySem.boot_len (pa_cons (pe_ix ix_tup (pv 0) pe_int (fun _ _ => rfl)) pa_nil)) pa_nil))) pa_nil))
          (pe_lc (own := [("entry", 2)]) (g := gName 2) rfl scLMfT.nd (pi_tup (pe_ix ix_tup (pv 0) pe_int (fun _ _ => rfl))) (blkOk_by (N := ["manifest", "lines", "entry"]) (sc := defScope sLMfT) (by decide +kernel))
            (fun _ _ _ _ _ => pg_name (i := 2) scLMfT.nd rfl (Or.inl rfl)) (fun _ _ _ _ _ => pts_nil) (fun _ _ _ _ _ => pe_mid (pe_joinK (K := K) pe_str (pv 2))))))
      (pss_one (ps_ret (pe_join pe_str (pe_op op_cat (pv 1) (pe_lst (pa_cons (pe_op op_add_str pe_str (pe_mid (pe_ifExp (pt_cmpR op_isN (pe_ix ix_tup (pv 0) pe_int (fun _ _ => rfl)) pe_non (nomark _)) pe_str (pe_ix ix_tup (pv 0) pe_int (fun _ _ => rfl))))) pa_nil)))))), ?_⟩
    have hz : sizeLine = 16777216 := sizeLine_eq
    obtain ⟨fit, hl⟩ := lines_fitM gk
    have lv := pd_len hs
    have few := gk.few
    have gl := gk.l
    have eh : ("entries " ++ Str.ofString (toString ((vs.length : Nat) : Int)) : PySem.Str) = headM g.1.length := by rw [lv]; rfl
    have k5 : ("lock " : PySem.Str).length = 5 := by decide +kernel
    refine ⟨_, rfl, a, _, 0, .ref p, rfl, rfl, .inl (.inl ha), rfl, p, _, rfl, .inr (.inl (.inl hp)), _, rfl, log_le (k := 3) (by rw [lv, Int.natAbs_natCast]; omega) (by decide), _, _, rfl, rfl, ?_, ?_⟩
    · rw [← strLen_append, eh]; omega
    rw [eh]
    refine ⟨by show 1 ≤ sizeLine; decide, fun l1 n1 => ?_⟩
    have s1 := new_same (o := .lst [.str (headM g.1.length)]) n1
    have h1 : upd H l1 (.lst [.str (headM g.1.length)]) l1 = some (.lst [.str (headM g.1.length)]) := upd_same
    generalize upd H l1 (.lst [.str (headM g.1.length)]) = H1 at s1 h1 ⊢
    refine ⟨_, rfl, a, _, 0, .ref p, rfl, rfl, .inl (.inl (s1 _ _ ha)), rfl, p, rfl, ⟨_, .inl (.inl (s1 _ _ hp))⟩, fun D nD => ?_⟩
    refine lc_map (walk_tup (K := K) (a := p) (xs := vs)) (fun u y _ => ∃ (ws : List PySem.Str) (q : Addr), (u = V.ref q ∧ H q = some (.tup (ws.map V.str))) ∧ y = .str (Txt.join Bk ws)) nD rfl (by omega) (fun H2 s => .inl (.inl (s _ _ (s1 _ _ hp)))) (fun _ _ _ _ _ h => h) (fun _ => rfl) (fun j u Hc hu s _ => ?_) (fun H2 ys s hD hq => ?_)
    · obtain ⟨ws, hw, q1, rfl, hq1⟩ := pd_at hs hu
      obtain ⟨w3, w4⟩ := gk.w ws hw
      have jl := join_len Bk ws
      have hb : Bk.length = 1 := by decide +kernel
      have sl := sum_le w4
      have m3 : ws.length * 100 ≤ 3 * 100 := Nat.mul_le_mul_right _ w3
      exact ⟨⟨_, rfl⟩, _, rfl, Bk, q1, ws, rfl, rfl, .inr (.inl (.inl ((s1.trans s) _ _ hq1))), by rw [hb]; omega, Same.refl _, ws, q1, ⟨rfl, hq1⟩, rfl⟩
    · have ey : ys = (g.1.map (Txt.join Bk)).map V.str := join_all hs hq
      rw [ey] at hD
      have s2 := s1.trans s
      refine ⟨l1, D, _, _, rfl, rfl, s _ _ h1, hD, by simp only [List.length_map, List.length_cons, List.length_nil, sizeLine_eq]; omega, fun l3 n3 => ?_⟩
      have s3 := s2.trans (new_same (o := .lst ([.str (headM g.1.length)] ++ (g.1.map (Txt.join Bk)).map V.str)) n3)
      have h3 : upd H2 l3 (.lst ([.str (headM g.1.length)] ++ (g.1.map (Txt.join Bk)).map V.str)) l3 = some (.lst ([.str (headM g.1.length)] ++ (g.1.map (Txt.join Bk)).map V.str)) := upd_same
      generalize upd H2 l3 (.lst ([.str (headM g.1.length)] ++ (g.1.map (Txt.join Bk)).map V.str)) = H3 at s3 h3 ⊢
      have ha3 := s3 _ _ ha
      refine ⟨⟨_, rfl⟩, _, rfl, fun x H' => x = .str g.2 ∧ H' = H3, ⟨_, rfl, a, _, 1, lkV g.2, rfl, rfl, .inl (.inl ha3), rfl, rfl, _, rfl, ?_⟩, ?_⟩
      · by_cases c : V.str g.2 = V.str "-"
        · have e : g.2 = "-" := by injection c
          rw [e, lkV_dash, decide_eq_true rfl]
          exact ⟨rfl, rfl⟩
        · rw [lkV_str c, decide_eq_false (by intro z; cases z)]
          exact ⟨_, rfl, a, _, 1, .str g.2, rfl, rfl, .inl (.inl ha3), by rw [lkV_str c]; rfl, rfl, rfl⟩
      rintro x H' ⟨rfl, rfl⟩
      refine ⟨_, _, rfl, rfl, by rw [k5, sizeLine_eq]; omega, by show 1 ≤ sizeLine; decide, fun l4 n4 => ?_⟩
      have s4 := new_same (o := .lst [.str ("lock " ++ g.2)]) n4
      have h4 : upd H' l4 (.lst [.str ("lock " ++ g.2)]) l4 = some (.lst [.str ("lock " ++ g.2)]) := upd_same
      generalize upd H' l4 (.lst [.str ("lock " ++ g.2)]) = H4 at s4 h4 ⊢
      refine ⟨l3, l4, _, _, rfl, rfl, s4 _ _ h3, h4, by simp only [List.length_append, List.length_map, List.length_cons, List.length_nil, sizeLine_eq]; omega, fun l5 n5 => ?_⟩
      have e5 : ([V.str (headM g.1.length)] ++ (g.1.map (Txt.join Bk)).map V.str ++ [V.str ("lock " ++ g.2)]) = (headM g.1.length :: (g.1.map (Txt.join Bk) ++ ["lock " ++ g.2])).map V.str := by
        rw [List.map_cons, List.map_append]
        rfl
      rw [e5]
      exact ⟨Nl, l5, _, rfl, rfl, .inl (.inl (.inl upd_same)), fit, q _ ((s3.trans s4).trans (new_same n5))⟩
end
end V73
/-! The manifest, as the law reads it. -/
namespace V73
open PySem PySem.Spec PyProof.Rows L2 TL RX DK
abbrev sLReadM : Stmt := topS 30
abbrev NLR : List PySem.Str := ["text", "lines", "words", "paths", "lock", "line"]
theorem scLReadM : FnScope NLR ["text"] (defScope sLReadM) := ⟨rfl, rfl, rfl, by decide +kernel, rfl, by decide +kernel, by decide +kernel⟩
section
variable {P : Program} {w : World} {K : PySem.W.Frag} {mg : PySem.Str → Option Value} {base : Heap}
variable {fN fP fB fS : Addr} {dN dP dB dS : FuncData}
/-- rows of words, each a list -/
def LsAt (H : Hp) (vs : List V) (R : List (List PySem.Str)) : Prop := Paired (fun u ws => ∃ q, u = V.ref q ∧ H q = some (.lst (ws.map V.str))) vs R
theorem LsAt.same {H H' : Hp} {vs : List V} {R : List (List PySem.Str)} (h : LsAt H vs R) (s : Same H H') : LsAt H' vs R := pd_imp (fun _ _ ⟨q, e, z⟩ => ⟨q, e, s _ _ z⟩) h
def spLReadM : Sp := fun vs H Q _ => ∃ t : PySem.Str, vs = [.str t] ∧ Tm 900000 560 t ∧ (Txt.split t Nl).length ≤ 60 ∧ ∀ H' v, Same H H' → (∀ b, Rp b H' v (readDM t)) → Q v H'
theorem ok_lreadM {f : Addr} {fd : FuncData} {k : Nat} (F : Fun K "_law_read_manifest" "_law_read_manifest" sLReadM f fd) (mU : mg "tuple" = none) (mSo : mg "sorted" = none) (mSe : mg "set" = none)
    (T : Ln K mg fN fP fB fS dN dP dB dS) : FnOk P w K mg base CX0 (k + 4) f fd ["text"] spLReadM := by
  have GP : FnOk P w K mg base CX0 (k + 3) fP dP ["thing"] spPath := ok_lpath T.FP T.FN T.bN T.gN T.mS T.mT T.mL
  have GS : FnOk P w K mg base CX0 (k + 3) fS dS ["thing"] spShelfW := ok_lshelf T
  refine F.ok scLReadM (fun vs H Q E h => ?_) (fun cdv A outer s H vs Q E hr h => ?_)
  · obtain ⟨t, rfl, _⟩ := h
    rfl
  · obtain ⟨t, rfl, tm, fl, q⟩ := h
    refine ⟨_, pss_cons (ps_setLc (i := 1) (own := [("line", 5)]) (g := gName 5) rfl scLReadM.nd rfl rfl (sw_true rfl rfl rfl (by decide +kernel)) (pi_list (pe_split (pv 0) pe_str)) (blkOk_by (N := NLR) (sc := defScope sLReadM) (by decide +kernel))
          (fun _ _ _ _ _ => pg_name (i := 5) scLReadM.nd rfl (Or.inl rfl)) (fun _ _ _ _ _ => pts_nil) (fun _ _ _ _ _ => pe_mid (pe_split (pv 5) pe_str)))
      (pss_cons (ps_if (PW.pt (pw_or (pt_cmpR op_lt (pe_callB call_len_seq (by rfl) T.mL PySem.boot_len (pa_cons (pv 1) pa_nil)) pe_int (nomark _)) (pw_or1 (pt_cmpR (op_neTs hr.units) (pe_ix ix_list (pv 1) pe_int (fun _ _ => rfl))
            (pe_lst (pa_cons pe_str (pa_cons (pe_callTy call_str_int (by rfl) T.mT (by decide +kernel) (pa_cons (pe_op op_sub (pe_callB call_len_seq (by rfl) T.mL PySem.boot_len (pa_cons (pv 1) pa_nil)) pe_int) pa_nil)) pa_nil))) (nomark _))))) (pss_one (ps_ret pe_non)) pss_nil)
      (pss_cons (ps_for PassesOwn.never rfl (pi_list (pe_slice sl_list (pv 1) (po_some pe_int) (po_some (pe_un un_neg pe_int)))) (pg_name (i := 2) scLReadM.nd rfl (Or.inl rfl))
        (pss_one (ps_if (PW.pt (pw_or (pt_cmpR op_ne (pe_callB call_len_seq (by rfl) T.mL PySem.boot_len (pa_cons (pv 2) pa_nil)) pe_int (nomark _))
            (pw_or (pt_not (pt_val (pe_call GP hr (by rfl) T.gP T.FP.kp T.bP .nil pass0 (pa_cons (pe_ix ix_list (pv 2) pe_int (fun _ _ => rfl)) pa_nil)))) (pw_or1 (pt_not (pt_val (pe_call GS hr (by rfl) T.gS T.FS.kp T.bS .nil pass0 (pa_cons (pe_ix ix_list (pv 2) pe_int (fun _ _ => rfl)) pa_nil)))))))) (pss_one (ps_ret pe_non)) pss_nil)))
      (C8.pss_cut (ps_setLc (i := 3) (own := [("words", 2)]) (g := gName 2) rfl scLReadM.nd rfl rfl (sw_true rfl rfl rfl (by decide +kernel)) (pi_list (pe_slice sl_list (pv 1) (po_some pe_int) (po_some (pe_un un_neg pe_int)))) (blkOk_by (N := NLR) (sc := defScope sLReadM) (by decide +kernel))
          (fun _ _ _ _ _ => pg_name (i := 2) scLReadM.nd rfl (Or.inl rfl)) (fun _ _ _ _ _ => pts_nil) (fun _ _ _ _ _ => pe_mid (pe_ix (show IxR _ (rIxL K) from ix_list) (pv 2) pe_int (fun _ _ => rfl))))
      (pss_cons (ps_if (PW.pt (pw_or (pt_cmpR (op_neTs hr.units) (pv 3) (pe_sortSet rfl (by rfl) (by rfl) mSo mSe (pv 3) rfl) (nomark _)) (pw_or (pt_cmpR op_ne (pe_callB call_len_seq (by rfl) T.mL PySem.boot_len (pa_cons (pe_ix ix_list (pv 1) (pe_un un_neg pe_int) (fun _ _ => rfl)) pa_nil)) pe_int (nomark _))
          (pw_or1 (pt_cmpR op_ne (pe_ix ix_list (pe_ix ix_list (pv 1) (pe_un un_neg pe_int) (fun _ _ => rfl)) pe_int (fun _ _ => rfl)) pe_str (nomark _)))))) (pss_one (ps_ret pe_non)) pss_nil)
      (pss_cons (ps_set (i := 4) scLReadM.nd rfl (.inl rfl) (pe_ix ix_list (pe_ix ix_list (pv 1) (pe_un un_neg pe_int) (fun _ _ => rfl)) pe_int (fun _ _ => rfl)))
      (C8.pss_cut (ps_if (PW.pt (pw_and (pt_cmpR op_ne (pv 4) pe_str (nomark _)) (pw_and1 (pt_not (pt_val (pe_call GS hr (by rfl) T.gS T.FS.kp T.bS .nil pass0 (pa_cons (pv 4) pa_nil))))))) (pss_one (ps_ret pe_non)) pss_nil)
      (pss_one (ps_ret (pe_tup (pa_cons (pe_callTy call_tuple_of (by rfl) mU (by decide +kernel) (pa_cons (pe_lc (own := [("words", 2)]) (g := gName 2) rfl scLReadM.nd (pi_list (pe_slice sl_list (pv 1) (po_some pe_int) (po_some (pe_un un_neg pe_int)))) (blkOk_by (N := NLR) (sc := defScope sLReadM) (by decide +kernel))
          (fun _ _ _ _ _ => pg_name (i := 2) scLReadM.nd rfl (Or.inl rfl)) (fun _ _ _ _ _ => pts_nil) (fun _ _ _ _ _ => pe_mid (pe_callTy (show CallR _ _ (rTupOf K) from call_tupK) (by rfl) mU (by decide +kernel) (pa_cons (pv 2) pa_nil)))) pa_nil))
        (pa_cons (pe_mid (pe_ifExp (pt_cmpR op_eq (pv 4) pe_str (nomark _)) pe_non (pv 4))) pa_nil))))))))))), ?_⟩
    have hz : sizeLine = 16777216 := sizeLine_eq
    have hx := tm.len
    have many := split_many (x := t) tl_nl (by decide +kernel)
    have ne := split_ne (x := t) tl_nl (by decide +kernel)
    have short : ∀ w ∈ Txt.split t Nl, w.length ≤ t.length := fun w hw => split_len tl_nl (by decide +kernel) hw
    have okl : ∀ w ∈ Txt.split t Nl, Tm 900000 560 w := fun w hw => tm.piece tl_nl (by decide +kernel) hw
    have okw : ∀ ws ∈ rowsT t, ∀ x ∈ ws, Tm 900000 560 x := fun ws hw x hx => by
      unfold rowsT at hw
      obtain ⟨y, hy, rfl⟩ := List.mem_map.mp hw
      exact (okl y hy).piece tl_bk (by decide +kernel) hx
    refine ⟨_, rfl, ⟨t, rfl⟩, t, Nl, rfl, rfl, by decide +kernel, by omega, fun l nl => ⟨l, rfl, ⟨_, .inl (.inl upd_same)⟩, fun D nD => ?_⟩⟩
    have hl : upd H l (.lst ((Txt.split t Nl).map V.str)) l = some (.lst ((Txt.split t Nl).map V.str)) := upd_same
    have sl := new_same (o := .lst ((Txt.split t Nl).map V.str)) nl
    generalize upd H l (.lst ((Txt.split t Nl).map V.str)) = H1 at nD hl sl ⊢
    refine lc_map (walk_list (K := K) (a := l) (xs := (Txt.split t Nl).map V.str)) (fun x y H => ∃ (z : PySem.Str) (q : Addr), x = V.str z ∧ y = V.ref q ∧ q ≠ D ∧ H q = some (.lst ((Txt.split z Bk).map V.str))) nD (by simp) (by rw [List.length_map]; omega) (fun H s => .inl (.inl (s _ _ hl)))
      (fun x y H H' k ⟨z, q, e1, e2, e3, e4⟩ => ⟨z, q, e1, e2, e3, k _ _ e4 (fun _ _ => e3) (fun _ e => nomatch e)⟩) (fun _ => rfl) (fun j v Hc hv s hz => ?_) (fun H2 vs s2 hD hp => ?_)
    · rw [List.getElem?_map] at hv
      obtain ⟨z, hz1, rfl⟩ := Option.map_eq_some_iff.mp hv
      have zl := short z (List.mem_of_getElem? hz1)
      obtain ⟨zs, hDc⟩ := hz
      exact ⟨_, rfl, ⟨z, rfl⟩, z, Bk, rfl, rfl, by decide +kernel, by omega, fun m nm => ⟨new_same nm, z, m, rfl, rfl, (ne_of_none hDc nm).symm, upd_same⟩⟩
    have rows : LsAt H2 vs (rowsT t) := by
      unfold rowsT
      exact pd_rowsL hp
    have sH2 := sl.trans s2
    clear hp nD sl s2 hl
    obtain ⟨first, rest, hrows⟩ : ∃ a b, rowsT t = a :: b := by
      unfold rowsT
      cases e : Txt.split t Nl with
      | nil => exact absurd e ne
      | cons a b => exact ⟨_, _, rfl⟩
    have rD : readDM t = match (if rest ≠ [] ∧ first = [("entries" : PySem.Str), num ((rest.length - 1 : Nat) : Int)] then readRM rest else none) with | some g => mfD g | none => .non := by
      unfold readDM readGM
      rw [hrows]
      all_goals rfl
    have fail : ∀ H', Same H H' → ¬ (rest ≠ [] ∧ first = [("entries" : PySem.Str), num ((rest.length - 1 : Nat) : Int)] ∧ (readRM rest).isSome = true) → Q .non H' := fun H' s' n => q H' .non s' fun b => by
      rw [rD]
      by_cases c : rest ≠ [] ∧ first = [("entries" : PySem.Str), num ((rest.length - 1 : Nat) : Int)]
      · rw [if_pos c]
        cases e : readRM rest with
        | none => exact .non
        | some g => exact absurd ⟨c.1, c.2, by rw [e]; rfl⟩ n
      · rw [if_neg c]; exact .non
    rw [hrows] at rows okw
    have lv := pd_len rows
    rw [List.length_cons] at lv
    have fewl : vs.length ≤ 900001 := by
      have := congrArg List.length hrows
      unfold rowsT at this
      rw [List.length_map, List.length_cons] at this
      omega
    refine ⟨_, rfl, D, _, rfl, .inl (.inl (.inl hD)), _, _, rfl, rfl, _, rfl, ?_⟩
    by_cases h2 : vs.length < 2
    · rw [decide_eq_true (show ((vs.length : Nat) : Int) < 2 by omega)]
      exact fail H2 sH2 fun z => z.1 (List.length_eq_zero_iff.mp (by omega))
    rw [decide_eq_false (show ¬ ((vs.length : Nat) : Int) < 2 by omega)]
    have hRn : rest ≠ [] := fun e => by rw [e, List.length_nil] at lv; omega
    obtain ⟨v0, vr, hvs⟩ : ∃ a b, vs = a :: b := by
      cases vs with
      | nil => simp at h2
      | cons a b => exact ⟨_, _, rfl⟩
    have rows2 := rows
    rw [hvs] at rows2
    obtain ⟨q0, e0, hq0, rr⟩ : ∃ q0, v0 = V.ref q0 ∧ H2 q0 = some (.lst (first.map V.str)) ∧ LsAt H2 vr rest := by
      cases rows2 with
      | cons a b => exact ⟨a.choose, a.choose_spec.1, a.choose_spec.2, b⟩
    have enum : (((vs.length : Nat) : Int) - 2) = ((rest.length - 1 : Nat) : Int) := by omega
    refine ⟨_, rfl, D, _, 0, v0, rfl, rfl, .inl (.inl hD), by rw [hvs]; exact atI_nat (j := 0) rfl, _, rfl, D, _, rfl, .inl (.inl (.inl hD)), _, _, rfl, rfl, _, rfl, log_le (k := 7) (by omega) (by decide), by show 2 ≤ sizeLine; decide, fun m nm => ?_⟩
    have okn : ∀ y ∈ [("entries" : PySem.Str), num ((rest.length - 1 : Nat) : Int)], OkS y := by
      intro y hy
      simp only [List.mem_cons, List.not_mem_nil, or_false] at hy
      rcases hy with rfl | rfl
      · intro c hc; revert c; decide +kernel
      · intro c hc
        have := numL_digits (rest.length - 1) c (by rw [← tl_num]; exact hc)
        omega
    refine ⟨q0, m, first, [("entries" : PySem.Str), num ((rest.length - 1 : Nat) : Int)], e0, rfl, new_ne hq0 nm, ?_, fun x hx => (okw first (by simp) x hx).ok, okn, _, rfl, ?_⟩
    · rw [upd_same, enum]; rfl
    have s3 := new_same (o := .lst [V.str "entries", V.str (Str.ofString (toString (((vs.length : Nat) : Int) - 2)))]) nm
    generalize upd H2 m (.lst [V.str "entries", V.str (Str.ofString (toString (((vs.length : Nat) : Int) - 2)))]) = H3 at s3 ⊢
    have sH3 := sH2.trans s3
    by_cases hf : first = [("entries" : PySem.Str), num ((rest.length - 1 : Nat) : Int)]
    case neg =>
      rw [decide_eq_false hf]
      exact fail H3 sH3 fun z => hf z.2.1
    rw [decide_eq_true hf]
    have hD3 := s3 _ _ hD
    have rr3 := LsAt.same rr s3
    have emid : cutV vs (some 1) (some (-1)) = vr.dropLast := by
      exact (cutV_mid vs 1).trans (by rw [hvs]; rfl)
    have fail2 : ∀ H', Same H H' → ¬ (rest.dropLast.all entB = true ∧ ascD (rest.dropLast.map hd) = true ∧ lockM (rest.getLastD []) = true) → Q .non H' := fun H' s' n => fail H' s' fun z => n (by
      have := z.2.2
      unfold readRM at this
      by_cases c : rest.dropLast.all entB = true ∧ ascD (rest.dropLast.map hd) = true ∧ lockM (rest.getLastD []) = true
      · exact c
      · rw [if_neg c] at this; cases this)
    have rmid := pd_init rr3
    have lmid := pd_len rmid
    have few6 : rest.dropLast.length ≤ 60 := by
      have := congrArg List.length hrows
      unfold rowsT at this
      rw [List.length_map, List.length_cons] at this
      rw [List.length_dropLast]; omega
    refine ⟨_, rfl, 1, rfl, 1, rfl, _, rfl, D, _, rfl, .inl (.inl hD3), fun l3 n3 => ⟨l3, rfl, ⟨_, .inl (.inl upd_same)⟩, ?_⟩⟩
    rw [show (-(1 : Int)) = -1 from rfl, emid]
    have h4 : upd H3 l3 (.lst vr.dropLast) l3 = some (.lst vr.dropLast) := upd_same
    have s4 := new_same (o := .lst vr.dropLast) n3
    generalize upd H3 l3 (.lst vr.dropLast) = H4 at h4 s4 ⊢
    have sH4 := sH3.trans s4
    refine for_it (walk_list (K := K) (a := l3) (xs := vr.dropLast)) (fun j σ' H' => (∃ y, σ' = [some (.str t), some (.ref D), y, none, none, none]) ∧ Same H4 H' ∧ (rest.dropLast.take j).all entB = true) ⟨⟨_, rfl⟩, Same.refl _, by rw [List.take_zero]; rfl⟩ (fun j σ' H' _ h => .inl (.inl (h.2.1 _ _ h4))) ?_ ?_
    · rintro j x σ' H5' H5 hj ⟨⟨y, rfl⟩, s5, al⟩ ⟨rfl, hx5⟩
      obtain ⟨ws, hw, q1, rfl, hq1⟩ := pd_atR rmid hx5
      have wm : ws ∈ rest.dropLast := List.mem_of_getElem? hw
      have okx := okw ws (List.mem_cons_of_mem _ (List.dropLast_subset _ wm))
      have hq5 := (s4.trans s5) _ _ hq1
      have sH5 := sH4.trans s5
      have nstep : ∀ H', Same H H' → entB ws ≠ true → Q .non H' := fun H' s' n => fail2 H' s' fun z => n (List.all_eq_true.mp z.1 ws wm)
      have ystep : entB ws = true → (rest.dropLast.take (j + 1)).all entB = true := fun e => by
        rw [List.take_add_one, hw, List.all_append, al]
        show (true && (entB ws && true)) = true
        rw [e]; rfl
      have e2 : (V.int (((ws.map V.str).length : Nat) : Int) = V.int 2) ↔ ws.length = 2 := by
        rw [List.length_map]
        exact ⟨fun z => by injection z with z; omega, fun z => by rw [z]; rfl⟩
      refine ⟨_, rfl, q1, _, rfl, .inl (.inl (.inl hq5)), rfl, _, rfl, ?_⟩
      by_cases h2 : ws.length = 2
      case neg =>
        rw [decide_eq_false (fun z => h2 (e2.mp z))]
        refine nstep H5 sH5 fun e => h2 ?_
        obtain ⟨y, u, e3, _⟩ := ent_two e
        rw [e3]; rfl
      rw [decide_eq_true (e2.mpr h2)]
      obtain ⟨y, u, rfl⟩ : ∃ y u, ws = [y, u] := by
        match ws, h2 with
        | [y, u], _ => exact ⟨y, u, rfl⟩
      have ty := okx y (by simp)
      have tu := okx u (by simp)
      refine ⟨_, rfl, q1, _, 0, .str y, rfl, rfl, .inl (.inl hq5), rfl, y, rfl, Nat.le_trans ty.len (by decide), fun H9 s9 => ⟨_, rfl, ?_⟩⟩
      by_cases p : isPath y = true
      case neg =>
        have p' : isPath y = false := by simpa using p
        rw [p']
        refine nstep H9 (sH5.trans s9) fun e => p ?_
        obtain ⟨y2, u2, e3, z, _⟩ := ent_two e
        injection e3 with e3 _
        rw [e3]; exact z
      rw [p]
      refine ⟨_, rfl, q1, _, 1, .str u, rfl, rfl, .inl (.inl (s9 _ _ hq5)), rfl, u, rfl, Nat.le_trans tu.len (by decide), tu.dig, fun H10 s10 => ⟨_, rfl, ?_⟩⟩
      by_cases g : isShelf u = true
      case neg =>
        have g' : isShelf u = false := by simpa using g
        rw [g']
        refine nstep H10 ((sH5.trans s9).trans s10) fun e => g ?_
        obtain ⟨y2, u2, e3, _, z⟩ := ent_two e
        injection e3 with _ e3
        injection e3 with e3
        rw [e3]; exact z
      rw [g]
      refine ⟨⟨_, rfl⟩, (s5.trans s9).trans s10, ystep ?_⟩
      show (isPath y && isShelf u) = true
      rw [p, g]; rfl
    · rintro σ' H5 ⟨⟨y, rfl⟩, s5, al⟩
      rw [List.take_of_length_le (by omega)] at al
      have sH5 := sH4.trans s5
      have s35 := s4.trans s5
      have hD5 := s35 _ _ hD3
      have rr5 := LsAt.same rr3 s35
      obtain ⟨u, lw, hu, hlw, qa, eu, hqa⟩ := pd_last rr5 hRn
      subst eu
      have hul : vs.getLast? = some (V.ref qa) := by
        rw [hvs]
        cases vr with
        | nil => cases hu
        | cons a b => rw [List.getLast?_cons_cons]; exact hu
      have eL : rest.getLastD [] = lw := by rw [List.getLastD_eq_getLast?, hlw]; rfl
      have okx := okw lw (List.mem_cons_of_mem _ (List.mem_of_getLast? hlw))
      have rm5 := LsAt.same rmid s35
      -- paths
      refine ⟨fun σ' H' => ∃ (y : Option V) (r : Addr), σ' = [some (.str t), some (.ref D), y, some (.ref r), none, none] ∧ Same H5 H' ∧ H' r = some (.lst ((rest.dropLast.map hd).map V.str)), ?_, ?_⟩
      · refine ⟨_, rfl, 1, rfl, 1, rfl, _, rfl, D, _, rfl, .inl (.inl hD5), fun l7 n7 => ⟨l7, rfl, ⟨_, .inl (.inl upd_same)⟩, fun D2 nD2 => ?_⟩⟩
        rw [show (-(1 : Int)) = -1 from rfl, emid] at nD2 ⊢
        have h7 : upd H5 l7 (.lst vr.dropLast) l7 = some (.lst vr.dropLast) := upd_same
        have s7 := new_same (o := .lst vr.dropLast) n7
        generalize upd H5 l7 (.lst vr.dropLast) = H7 at h7 s7 nD2 ⊢
        have rm7 := LsAt.same rm5 s7
        refine lc_map (walk_list (K := K) (a := l7) (xs := vr.dropLast)) (fun x y _ => ∃ (ws : List PySem.Str) (q : Addr), (x = V.ref q ∧ H7 q = some (.lst (ws.map V.str))) ∧ y = .str (hd ws)) nD2 rfl (by rw [List.length_dropLast]; rw [hvs, List.length_cons] at fewl; omega) (fun H s => .inl (.inl (s _ _ h7)))
          (fun _ _ _ _ _ h => h) (fun _ => rfl) (fun j v Hc hv s _ => ?_) (fun H8 ys s hD2 hp => ?_)
        · obtain ⟨ws, hw, q1, rfl, hq1⟩ := pd_at rm7 hv
          obtain ⟨y, u, ew, _, _⟩ := ent_two (List.all_eq_true.mp al ws hw)
          have e0 : atI (ws.map V.str) 0 = some (V.str (hd ws)) := by rw [ew]; rfl
          exact ⟨_, rfl, q1, _, 0, .str (hd ws), rfl, rfl, .inl (.inl (s _ _ hq1)), e0, Same.refl _, ws, q1, ⟨rfl, hq1⟩, rfl⟩
        · rw [heads_all rm7 hp] at hD2
          exact ⟨_, D2, rfl, s7.trans s, hD2⟩
      rintro σ' H6 ⟨yw, r, rfl, s6, hr6⟩
      have sH6 := sH5.trans s6
      have hD6 := s6 _ _ hD5
      have hqa6 := s6 _ _ hqa
      have okh : ∀ x ∈ rest.dropLast.map hd, OkS x := fun x hx => by
        obtain ⟨ws, hw, rfl⟩ := List.mem_map.mp hx
        obtain ⟨y, u, ew, _, _⟩ := ent_two (List.all_eq_true.mp al ws hw)
        have : hd ws ∈ ws := by rw [ew]; exact List.mem_cons_self
        exact (okw ws (List.mem_cons_of_mem _ (List.dropLast_subset _ hw)) _ this).ok
      refine ⟨_, rfl, _, rfl, r, rest.dropLast.map hd, rfl, hr6, by rw [List.length_map]; omega, fun H7 p zs s7 np hp7 as mm le => ?_⟩
      refine ⟨r, p, _, zs, rfl, rfl, s7 _ _ hr6, hp7, okh, (fun x hx => okh x ((mm x).mp hx)), _, rfl, ?_⟩
      have sH7 := sH6.trans s7
      by_cases asc : rest.dropLast.map hd = zs
      case neg =>
        rw [decide_eq_false asc]
        refine fail2 H7 sH7 fun z => asc ?_
        exact TX.Asc.one ((asc_all _).mp z.2.1) as fun x => (mm x).symm
      rw [decide_eq_true asc]
      have hasc : ascD (rest.dropLast.map hd) = true := (asc_all _).mpr (by rw [asc]; exact as)
      have hD7 := s7 _ _ hD6
      have hqa7 := s7 _ _ hqa6
      refine ⟨_, rfl, 1, rfl, D, _, -1, .ref qa, rfl, rfl, .inl (.inl hD7), atI_end hul, qa, _, rfl, .inl (.inl (.inl hqa7)), rfl, _, rfl, ?_⟩
      have e2 : (V.int (((lw.map V.str).length : Nat) : Int) = V.int 2) ↔ lw.length = 2 := by
        rw [List.length_map]
        exact ⟨fun z => by injection z with z; omega, fun z => by rw [z]; rfl⟩
      by_cases h2 : lw.length = 2
      case neg =>
        rw [decide_eq_false (fun z => h2 (e2.mp z))]
        refine fail2 H7 sH7 fun z => h2 ?_
        rw [eL] at z
        obtain ⟨x, y, e⟩ := lockM_two z.2.2
        rw [e]; rfl
      rw [decide_eq_true (e2.mpr h2)]
      obtain ⟨x, y, rfl⟩ : ∃ x y, lw = [x, y] := by
        match lw, h2 with
        | [x, y], _ => exact ⟨x, y, rfl⟩
      have hlk : lockM (rest.getLastD []) = (decide (V.str x = V.str "lock") && (decide (V.str y = V.str "-") || isShelf y)) := by rw [eL]; rfl
      refine ⟨_, rfl, 1, rfl, D, _, -1, .ref qa, rfl, rfl, .inl (.inl hD7), atI_end hul, qa, _, 0, .str x, rfl, rfl, .inl (.inl hqa7), rfl, rfl, _, rfl, ?_⟩
      by_cases ex : V.str x = V.str "lock"
      case neg =>
        rw [decide_eq_false ex]
        exact fail2 H7 sH7 fun z => by rw [hlk, decide_eq_false ex] at z; exact Bool.noConfusion z.2.2
      rw [decide_eq_true ex]
      rw [decide_eq_true ex, Bool.true_and] at hlk
      have ty := okx y (by simp)
      refine ⟨_, rfl, 1, rfl, D, _, -1, .ref qa, rfl, rfl, .inl (.inl hD7), atI_end hul, qa, _, 1, .str y, rfl, rfl, .inl (.inl hqa7), rfl, ?_⟩
      have fin : ∀ H8, Same H7 H8 → lockM (rest.getLastD []) = true → ∀ H9 ys p, Same H8 H9 → RwAt H9 ys rest.dropLast → H9 p = some (.tup ys) → ∀ r, H9 r = none → Q (.ref r) (upd H9 r (.tup [.ref p, lkV y])) := fun H8 s8 hl H9 ys p s9 rw9 hp9 r nr => by
        have sr := new_same (o := .tup [.ref p, lkV y]) nr
        refine q _ _ (((sH7.trans s8).trans s9).trans sr) fun b => ?_
        rw [rD, if_pos ⟨hRn, hf⟩]
        unfold readRM
        rw [if_pos ⟨al, hasc, hl⟩, eL]
        exact .tup upd_same (.cons (.tup (sr _ _ hp9) (RwAt.rp b (RwAt.same rw9 sr))) (.cons (lk_rp b _ y) .nil))
      refine ⟨fun σ' H' => σ' = [some (.str t), some (.ref D), yw, some (.ref r), some (.str y), none] ∧ Same H7 H' ∧ lockM (rest.getLastD []) = true, ?_, ?_⟩
      · refine ⟨_, rfl, rfl, _, rfl, ?_⟩
        by_cases ey2 : V.str y = V.str "-"
        · rw [decide_eq_true ey2]
          rw [decide_eq_true ey2, Bool.true_or] at hlk
          exact ⟨rfl, Same.refl _, hlk⟩
        · rw [decide_eq_false ey2]
          rw [decide_eq_false ey2, Bool.false_or] at hlk
          refine ⟨_, rfl, y, rfl, Nat.le_trans ty.len (by decide), ty.dig, fun H8 s8 => ⟨_, rfl, ?_⟩⟩
          by_cases es : isShelf y = true
          · rw [es]
            exact ⟨rfl, s8, by rw [hlk, es]⟩
          · have es' : isShelf y = false := by simpa using es
            rw [es']
            exact fail2 H8 (sH7.trans s8) fun z => by rw [hlk, es'] at z; exact Bool.noConfusion z.2.2
      rintro σ' H8 ⟨rfl, s8, hl⟩
      have hD8 := s8 _ _ hD7
      have rm8 := LsAt.same (LsAt.same (LsAt.same rm5 s6) s7) s8
      refine ⟨_, rfl, 1, rfl, 1, rfl, _, rfl, D, _, rfl, .inl (.inl hD8), fun l7 n7 => ⟨l7, rfl, ⟨_, .inl (.inl upd_same)⟩, fun D2 nD2 => ?_⟩⟩
      rw [show (-(1 : Int)) = -1 from rfl, emid] at nD2 ⊢
      have h9 : upd H8 l7 (.lst vr.dropLast) l7 = some (.lst vr.dropLast) := upd_same
      have s9 := new_same (o := .lst vr.dropLast) n7
      generalize upd H8 l7 (.lst vr.dropLast) = H9 at h9 s9 nD2 ⊢
      have rm9 := LsAt.same rm8 s9
      refine lc_map (walk_list (K := K) (a := l7) (xs := vr.dropLast)) (fun x y H => ∃ (ws : List PySem.Str) (q : Addr) (p : Addr), (x = V.ref q ∧ H9 q = some (.lst (ws.map V.str))) ∧ y = V.ref p ∧ H p = some (.tup (ws.map V.str))) nD2 rfl (by rw [List.length_dropLast]; rw [hvs, List.length_cons] at fewl; omega) (fun H s => .inl (.inl (s _ _ h9)))
        (fun x y H H' k ⟨z, q, p, e1, e2, e3⟩ => ⟨z, q, p, e1, e2, k _ _ e3 (fun _ e => nomatch e) (fun _ e => nomatch e)⟩) (fun _ => rfl) (fun j v Hc hv s _ => ?_) (fun Ha ys s hD2 hp => ?_)
      · obtain ⟨ws, hw, q1, rfl, hq1⟩ := pd_at rm9 hv
        exact ⟨_, rfl, q1, _, rfl, .inl ⟨.inl (.inl (s _ _ hq1)), fun r nr => ⟨new_same nr, ws, q1, r, ⟨rfl, hq1⟩, rfl, upd_same⟩⟩⟩
      · have rwa : RwAt Ha ys rest.dropLast := rows_back rm9 hp
        refine ⟨D2, _, rfl, .inl ⟨.inl (.inl hD2), fun p np => ?_⟩⟩
        have sp := new_same (o := .tup ys) np
        have hpa : upd Ha p (.tup ys) p = some (.tup ys) := upd_same
        generalize upd Ha p (.tup ys) = Hb at sp hpa ⊢
        refine ⟨fun x H' => x = lkV y ∧ H' = Hb, ⟨_, rfl, rfl, _, rfl, ?_⟩, ?_⟩
        · by_cases ey2 : V.str y = V.str "-"
          · rw [decide_eq_true ey2]
            exact ⟨(if_pos ey2).symm, rfl⟩
          · rw [decide_eq_false ey2]
            exact ⟨_, rfl, (if_neg ey2).symm, rfl⟩
        rintro z Hc ⟨rfl, rfl⟩
        exact ⟨by show 2 ≤ sizeLine; decide, fun r nr => fin H8 s8 hl _ ys p ((s9.trans s).trans sp) (RwAt.same rwa sp) hpa r nr⟩
end
end V73
/-! The law. -/
namespace V73
open PySem PySem.Spec PyProof.Rows L2 TL RX DK
theorem rg_small {n : Nat} (hn : n ≤ 100000) {c : Int} (h1 : 1 ≤ c) (h5 : c ≤ 5) : ∃ m : Nat, RgC 0 (n : Nat) c m ∧ m ≤ n := by
  refine ⟨(Builtin.Range.rangeSize 0 (n : Nat) c).toNat, ⟨by omega, by omega, ?_, rangeSize_toNat _ _ _⟩, ?_⟩
  · have : c = 1 ∨ c = 2 ∨ c = 3 ∨ c = 4 ∨ c = 5 := by omega
    unfold Builtin.Range.small Builtin.Range.rangeSize Builtin.Range.rangeFitsLong
    rcases this with rfl | rfl | rfl | rfl | rfl <;> simp <;> omega
  · have := rangeSize_toNat_le 0 (n : Nat) c
    omega
/-- far shelves -/
def FRL : List PySem.Str := ["store/c10000000000000000000", "store/c1000000000000000000", "store/c100000000000000000000"]
def tmB (x : PySem.Str) : Bool := decide (x.length ≤ 2000) && decide (W dg x ≤ 560) && ((tl x).all fun c => decide (c < 0x110000)) && decide (W nw x ≤ 50)
theorem tm_of {x : PySem.Str} (h : tmB x = true) : Tl 2000 560 50 x := by
  unfold tmB at h
  simp only [Bool.and_eq_true, decide_eq_true_eq, List.all_eq_true] at h
  exact ⟨⟨h.1.1.1, h.1.1.2, h.1.2⟩, h.2⟩
theorem far_of {n : V} (h : n ∈ [V.int 19, .int 18, .int 20]) : ∃ i : Int, n = .int i ∧ MulOk "0" i ∧ ("store/c1" ++ Txt.mul "0" i : PySem.Str) ∈ FRL ∧ (Txt.mul "0" i).length ≤ 20 := by
  simp only [List.mem_cons, List.not_mem_nil, or_false] at h
  rcases h with e | e | e <;> exact ⟨_, e, ⟨by decide +kernel, by decide +kernel⟩, by decide +kernel, by decide +kernel⟩
theorem frl_ok : ∀ x ∈ FRL, tmB ("entries 0\nlock " ++ x) = true ∧ tmB ("entries 1\na " ++ x ++ "\nlock -") = true ∧ x.length ≤ 40 := by decide +kernel
def OTL : List PySem.Str := ["", "entries", "entries 0", "entries 0\nlock -", "entries 0\nlock -\n", "entries 1\nlock -"]
theorem otl_ok : ∀ x ∈ OTL, tmB x = true := by decide +kernel
/-- texts in a list -/
def TsAt (H : Hp) (r : Addr) (m : Nat) : Prop := ∃ ts : List PySem.Str, H r = some (.lst (ts.map V.str)) ∧ ts.length ≤ m ∧ ∀ t ∈ ts, Tl 2000 560 50 t
abbrev sLaw : Stmt := topS 33
abbrev NL : List PySem.Str := ["script", "bag", "turn", "manifest", "text", "texts", "far", "thing", "size", "k"]
theorem scLaw : FnScope NL ["script"] (defScope sLaw) := ⟨rfl, rfl, rfl, by decide +kernel, rfl, by decide +kernel, by decide +kernel⟩
/-- what else the law calls -/
structure Lx (K : PySem.W.Frag) (mg : PySem.Str → Option Value) (fB fAl fLo fNe fLt fWt fRd fIs fWr fAs : Addr) (dB dAl dLo dNe dLt dWt dRd dIs dWr dAs : FuncData) (t7 : Tok) : Prop where
  FB : Fun K "_law_bag" "_law_bag" sBag fB dB
  bB : Binds K dB ["script"] []
  gB : mg "_law_bag" = some (.ref fB)
  FAl : Fun K "_law_alike" "_law_alike" sAlike fAl dAl
  bAl : Binds K dAl ["found", "due"] []
  gAl : mg "_law_alike" = some (.ref fAl)
  FLo : Fun K "_law_drawn_manifest" "_law_drawn_manifest" sDrawn fLo dLo
  bLo : Binds K dLo ["bag"] []
  gLo : mg "_law_drawn_manifest" = some (.ref fLo)
  FNe : Fun K "_law_near_text" "_law_near_text" sNear fNe dNe
  bNe : Binds K dNe ["bag", "text"] []
  gNe : mg "_law_near_text" = some (.ref fNe)
  FLt : Fun K "manifest_text" "manifest_text" sMfT fLt dLt
  bLt : Binds K dLt ["manifest"] []
  gLt : mg "manifest_text" = some (.ref fLt)
  FWt : Fun K "_law_manifest_text" "_law_manifest_text" sLMfT fWt dWt
  bWt : Binds K dWt ["manifest"] []
  gWt : mg "_law_manifest_text" = some (.ref fWt)
  FRd : Fun K "read_manifest" "read_manifest" sReadM fRd dRd
  bRd : Binds K dRd ["text"] []
  gRd : mg "read_manifest" = some (.ref fRd)
  FIs : Fun K "is_entry" "is_entry" sEnt fIs dIs
  bIs : Binds K dIs ["words"] []
  gIs : mg "is_entry" = some (.ref fIs)
  FWr : Fun K "_law_read_manifest" "_law_read_manifest" sLReadM fWr dWr
  bWr : Binds K dWr ["text"] []
  gWr : mg "_law_read_manifest" = some (.ref fWr)
  FAs : Fun K "is_ascending" "is_ascending" sAscd fAs dAs
  bAs : Binds K dAs ["row"] []
  gAs : mg "is_ascending" = some (.ref fAs)
  gZ : mg "NO_SHELF" = some (.str "-" t7)
  mRepr : mg "repr" = none
  mAbs : mg "abs" = none
  mSe : mg "set" = none
def spLaw (K : PySem.W.Frag) : Sp := fun vs H Q _ => ∃ (a : Addr) (ns : List Int), vs = [.ref a] ∧ SqL K H a (ns.map V.int) ∧ ns.length ≤ 63 ∧ ∀ H', Q (.bl true) H'
abbrev sg (a b : Addr) (x2 x3 x4 x5 x6 x7 : Option V) : L2.St := [some (.ref a), some (.ref b), x2, x3, x4, x5, x6, x7, none, none]
section
variable {P : Program} {w : World} {K : PySem.W.Frag} {mg : PySem.Str → Option Value} {base : Heap}
theorem ok_law {f : Addr} {fd : FuncData} {fB fAl fLo fNe fLt fWt fRd fIs fWr fAs fT fO fM : Addr} {dB dAl dLo dNe dLt dWt dRd dIs dWr dAs dT dO dM : FuncData} {gN gP gB gS lN lP lB lS : Addr} {eN eP eB eS hN hP hB hS : FuncData} {t1 t2 t3 t4 t5 t6 t7 : Tok}
    (F : Fun K "law" "law" sLaw f fd) (D : Dr K mg fT fO fM dT dO dM) (N : Cn K mg gN gP gB gS eN eP eB eS t1 t2 t3 t4 t5 t6) (L : Ln K mg lN lP lB lS hN hP hB hS) (T : Lx K mg fB fAl fLo fNe fLt fWt fRd fIs fWr fAs dB dAl dLo dNe dLt dWt dRd dIs dWr dAs t7) :
    Ok0 P w K mg base 7 f fd ["script"] (spLaw K) := by
  have GB : FnOk P w K mg base CX0 6 fB dB ["script"] (spBag K) := ok_bag T.FB T.mAbs
  have GT : FnOk P w K mg base CX0 6 fT dT ["bag", "many"] spTake := ok_take D.FT D.mI
  have GO : FnOk P w K mg base CX0 6 fO dO ["bag", "things"] spOne := ok_one D.FO D.FT D.bT D.gT D.mI D.mL
  have GA : Ok0 P w K mg base 6 fAl dAl ["found", "due"] spAlike := ok_alike T.FAl T.mRepr
  have GL : FnOk P w K mg base CX0 6 fLo dLo ["bag"] spDrawn := ok_drawn T.FLo D
  have GN : FnOk P w K mg base CX0 6 fNe dNe ["bag", "text"] spNear := ok_near T.FNe D
  have GX : FnOk P w K mg base CX0 6 fLt dLt ["manifest"] spMfT := ok_mft T.FLt D.mL T.gZ
  have GW : FnOk P w K mg base CX0 6 fWt dWt ["manifest"] spMfT := ok_lmft T.FWt D.mL D.mT
  have GR : FnOk P w K mg base CX0 6 fRd dRd ["text"] spReadM := ok_readM T.FRd T.FIs T.bIs T.gIs T.FAs T.bAs T.gAs D.mU D.mR T.gZ N
  have GZ : FnOk P w K mg base CX0 6 fWr dWr ["text"] spLReadM := ok_lreadM T.FWr D.mU D.mSo T.mSe L
  refine Ok0.mk_of F scLaw (fun vs H Q E h => ?_) (fun cdv A outer s H vs Q E hgd hr h => ?_)
  · obtain ⟨a, ns, rfl, _⟩ := h
    rfl
  · obtain ⟨a, ns, rfl, hS, hl, q⟩ := h
    refine ⟨_, pss_cons (ps_set (i := 1) scLaw.nd rfl (.inr rfl) (pe_call GB hr (by rfl) T.gB T.FB.kp T.bB .nil pass0 (pa_cons (pv 0) pa_nil)))
      (pss_cons (ps_for PassesOwn.never rfl (pi_range1 (by rfl) D.mR (pa_cons pe_int pa_nil)) (pg_name (i := 2) scLaw.nd rfl (Or.inl rfl))
        (C8.pss_cut (ps_set (i := 3) scLaw.nd rfl (.inl rfl) (pe_call GL hr (by rfl) T.gLo T.FLo.kp T.bLo .nil pass0 (pa_cons (pv 1) pa_nil)))
        (C8.pss_cut (ps_set (i := 4) scLaw.nd rfl (.inr rfl) (pe_call GW hr (by rfl) T.gWt T.FWt.kp T.bWt .nil pass0 (pa_cons (pv 3) pa_nil)))
        (C8.pss_cut (ps_if (pt_not (pt_val (pe_call00 GA hgd hr (by rfl) T.gAl T.FAl.kp T.bAl (pa_cons (pe_lst (pa_cons (pe_call GX hr (by rfl) T.gLt T.FLt.kp T.bLt .nil pass0 (pa_cons (pv 3) pa_nil)) (pa_cons (pe_call GR hr (by rfl) T.gRd T.FRd.kp T.bRd .nil pass0 (pa_cons (pv 4) pa_nil)) pa_nil))) (pa_cons (pe_lst (pa_cons (pv 4) (pa_cons (pv 3) pa_nil))) pa_nil))))) (pss_one (ps_ret pe_bl)) pss_nil)
        (C8.pss_cut (ps_setLc (i := 5) (own := [("size", 8)]) (g := gName 8) rfl scLaw.nd rfl rfl (sw_true rfl rfl rfl (by decide +kernel)) (pi_range3 (by rfl) D.mR (pa_cons pe_int (pa_cons (pe_callB call_len_str (by rfl) D.mL PySem.boot_len (pa_cons (pv 4) pa_nil)) (pa_cons (pe_op op_add pe_int (pe_call GT hr (by rfl) D.gT D.FT.kp D.bT .nil pass0 (pa_cons (pv 1) (pa_cons pe_int pa_nil)))) pa_nil)))) (blkOk_by (N := NL) (sc := defScope sLaw) (by decide +kernel))
            (fun _ _ _ _ _ => pg_name (i := 8) scLaw.nd rfl (Or.inl rfl)) (fun _ _ _ _ _ => pts_nil) (fun _ _ _ _ _ => pe_mid (pe_slice sl_str (pv 4) po_none (po_some (pv 8)))))
        (C8.pss_cut (ps_set (i := 5) scLaw.nd rfl (.inl rfl) (pe_op op_cat (pe_op op_cat (pv 5) (pe_lc (own := [("k", 9)]) (g := gName 9) rfl scLaw.nd (pi_range1 (by rfl) D.mR (pa_cons pe_int pa_nil)) (blkOk_by (N := NL) (sc := defScope sLaw) (by decide +kernel))
            (fun _ _ _ _ _ => pg_name (i := 9) scLaw.nd rfl (Or.inl rfl)) (fun _ _ _ _ _ => pts_nil) (fun _ _ _ _ _ => pe_call GN hr (by rfl) T.gNe T.FNe.kp T.bNe .nil pass0 (pa_cons (pv 1) (pa_cons (pv 4) pa_nil)))))
            (pe_lst (pa_cons (pe_call GN hr (by rfl) T.gNe T.FNe.kp T.bNe .nil pass0 (pa_cons (pv 1) (pa_cons (pe_call GN hr (by rfl) T.gNe T.FNe.kp T.bNe .nil pass0 (pa_cons (pv 1) (pa_cons (pv 4) pa_nil))) pa_nil))) pa_nil))))
        (C8.pss_cut (ps_set (i := 6) scLaw.nd rfl (.inl rfl) (pe_op op_add_str pe_str (pe_op op_mulS pe_str (pe_call GO hr (by rfl) D.gO D.FO.kp D.bO .nil pass0 (pa_cons (pv 1) (pa_cons (pe_lst (pa_cons pe_int (pa_cons pe_int (pa_cons pe_int pa_nil)))) pa_nil))))))
        (C8.pss_cut (ps_set (i := 5) scLaw.nd rfl (.inl rfl) (pe_op op_cat (pv 5) (pe_lst (pa_cons (pe_op op_add_str pe_str (pv 6)) (pa_cons (pe_op op_add_str (pe_op op_add_str pe_str (pv 6)) pe_str) pa_nil)))))
        (pss_one (ps_for PassesOwn.never rfl (pi_list (pe_op op_cat (pv 5) (pe_lst (pa_cons pe_str (pa_cons pe_str (pa_cons pe_str (pa_cons pe_str (pa_cons pe_str (pa_cons pe_str pa_nil))))))))) (pg_name (i := 7) scLaw.nd rfl (Or.inl rfl))
          (pss_one (ps_if (pt_not (pt_val (pe_call00 GA hgd hr (by rfl) T.gAl T.FAl.kp T.bAl (pa_cons (pe_call GR hr (by rfl) T.gRd T.FRd.kp T.bRd .nil pass0 (pa_cons (pv 7) pa_nil)) (pa_cons (pe_call GZ hr (by rfl) T.gWr T.FWr.kp T.bWr .nil pass0 (pa_cons (pv 7) pa_nil)) pa_nil))))) (pss_one (ps_ret pe_bl)) pss_nil))))))))))))
      (pss_one (ps_ret pe_bl))), ?_⟩
    have hz : sizeLine = 16777216 := sizeLine_eq
    refine ⟨_, rfl, a, ns, rfl, hS, hl, fun H0 b _ _ hB0 => ⟨3, rfl, by decide, by decide, for_range (n := 3) (fun _ σ' H' => (∃ x2 x3 x4 x5 x6 x7, σ' = sg a b x2 x3 x4 x5 x6 x7) ∧ Bag H' b) ⟨⟨_, _, _, _, _, _, rfl⟩, hB0⟩ (fun i σ' H1 hi hP => ?_) (fun σ' H' _ => q H')⟩⟩
    obtain ⟨⟨x2, x3, x4, x5, x6, x7, rfl⟩, B1⟩ := hP
    clear hB0 hS
    -- log
    refine ⟨fun σ' H' => ∃ (y2 : Option V) (v : V) (g : Lg), σ' = sg a b y2 (some v) x4 x5 x6 x7 ∧ Bag H' b ∧ MfAt H' v g ∧ MfD g, ?_, ?_⟩
    · exact ⟨_, rfl, b, rfl, B1, fun H2 v g c2 B2 at2 d => ⟨_, v, g, rfl, B2, at2, d⟩⟩
    clear B1
    rintro σ' H1 ⟨y2, v, g, rfl, B1, at1, gd⟩
    -- text
    refine ⟨fun σ' H' => σ' = sg a b y2 (some v) (some (.str (mfT g))) x5 x6 x7 ∧ Same H1 H', ?_, ?_⟩
    · exact ⟨_, rfl, v, g, rfl, at1, gd.gok, fun H2 s => ⟨rfl, s⟩⟩
    rintro σ' H2 ⟨rfl, s2⟩
    have B2 := B1.same s2
    have at2 := at1.kt (KT.same s2)
    clear B1 at1 s2
    obtain ⟨o2, hb2⟩ := B2.lst
    have tm := gd.tm
    have tl1 := tm.t.len
    have gl2 := gd.lines
    -- told and read
    refine ⟨fun σ' H' => σ' = sg a b y2 (some v) (some (.str (mfT g))) x5 x6 x7 ∧ Same H2 H', ?_, ?_⟩
    · refine ⟨_, rfl, v, g, rfl, at2, gd.gok, fun H3 s3 => ⟨_, rfl, mfT g, rfl, by omega, fun H4 u s4 ru => ⟨by show 2 ≤ sizeLine; decide, fun l1 n1 => ?_⟩⟩⟩
      have s34 := s3.trans s4
      have l1b : l1 ≠ b := (ne_of_none (s34 _ _ hb2) n1).symm
      have s5 := new_same (o := .lst [.str (mfT g), u]) n1
      have h5 : upd H4 l1 (.lst [.str (mfT g), u]) l1 = some (.lst [.str (mfT g), u]) := upd_same
      generalize upd H4 l1 (.lst [.str (mfT g), u]) = H5 at s5 h5 ⊢
      have s25 := s34.trans s5
      refine ⟨_, rfl, _, rfl, by show 2 ≤ sizeLine; decide, fun l2 n2 => ?_⟩
      have l2b : l2 ≠ b := (ne_of_none (s25 _ _ hb2) n2).symm
      have s6 := new_same (o := .lst [.str (mfT g), v]) n2
      have h6 : upd H5 l2 (.lst [.str (mfT g), v]) l2 = some (.lst [.str (mfT g), v]) := upd_same
      generalize upd H5 l2 (.lst [.str (mfT g), v]) = H6 at s6 h6 ⊢
      have s26 := s25.trans s6
      obtain ⟨ra, rp, rv, e0, z1, z2, z3⟩ := at2
      rw [gd.read] at ru
      refine ⟨_, _, b, _, rfl, .lst l1b (s6 _ _ h5) (.cons (.str _) (.cons ((ru b).same (s5.trans s6)) .nil)), .lst l2b h6 (.cons (.str _) (.cons (by rw [e0]; exact .tup (s26 _ _ z1) (.cons (.tup (s26 _ _ z2) (RwAt.rp b (RwAt.same z3 s26))) (.cons (lk_rp b _ _) .nil))) .nil)), gd_mf gd, true, rfl, rfl, s26⟩
    rintro σ' H3 ⟨rfl, s3⟩
    have B3 := B2.same s3
    clear B2 at2 s3 hb2
    obtain ⟨o3, hb3⟩ := B3.lst
    -- pieces
    refine ⟨fun σ' H' => ∃ r : Addr, σ' = sg a b y2 (some v) (some (.str (mfT g))) (some (.ref r)) x6 x7 ∧ Bag H' b ∧ r ≠ b ∧ TsAt H' r 420, ?_, ?_⟩
    · refine ⟨_, rfl, mfT g, rfl, by omega, _, rfl, b, 5, rfl, B3, by decide, by decide, fun H4 c c4 B4 c0 c1 => ?_⟩
      obtain ⟨m, rg, hm⟩ := rg_small (n := (mfT g).length) (by omega) (c := 1 + c) (by omega) (by omega)
      refine ⟨1, c, rfl, rfl, 0, _, 1 + c, m, rfl, rg, fun D nD => ?_⟩
      obtain ⟨o4, hb4⟩ := B4.lst
      have Db : D ≠ b := (ne_of_none hb4 nD).symm
      refine lc_map (xs := (List.range m).map fun i => V.int (0 + (i : Nat) * (1 + c))) (walk_rangeC.mono (fun _ _ => trivial) (fun i H x H' hi _ y => ⟨y.1, by rw [List.getElem?_map, List.getElem?_range hi, y.2]; rfl⟩)) (fun x y _ => ∃ n : Int, y = .str (cutS (mfT g) none (some n))) nD (by rw [List.length_map, List.length_range]) (by omega) (fun H s => trivial) (fun _ _ _ _ _ h => h) (fun _ => rfl) (fun j u Hc hu s _ => ?_) (fun H5 ys s5 hD hp => ?_)
      · rw [List.getElem?_map] at hu
        obtain ⟨n, _, rfl⟩ := Option.map_eq_some_iff.mp hu
        exact ⟨_, rfl, _, rfl, _, rfl, _, rfl, by omega, Same.refl _, _, rfl⟩
      · have ly := pd_len hp
        rw [List.length_map, List.length_range] at ly
        have : ∀ {xs ys : List V}, Paired (fun x y => ∃ n : Int, y = V.str (cutS (mfT g) none (some n))) xs ys → ∃ ts : List PySem.Str, ys = ts.map V.str ∧ ∀ t ∈ ts, Tl 2000 560 50 t := by
          intro xs ys h
          induction ys generalizing xs with
          | nil => exact ⟨[], rfl, fun t h => by cases h⟩
          | cons y ys ih =>
            cases h with
            | cons a b =>
              obtain ⟨n, rfl⟩ := a
              obtain ⟨ts, e, k⟩ := ih b
              exact ⟨_ :: ts, by rw [e]; rfl, all_cons ((tm.cut none (some n)).up (by decide) (by decide) (by decide)) k⟩
        obtain ⟨ts, e, k⟩ := this hp
        rw [e] at hD ly
        rw [List.length_map] at ly
        exact ⟨D, rfl, B4.same s5, Db, ts, hD, by omega, k⟩
    clear B3 hb3
    rintro σ' H4 ⟨r, rfl, B4, rb, ts, hr4, l4, ok4⟩
    obtain ⟨o4, hb4⟩ := B4.lst
    have near1 : ∀ t', Tl (2 * 420 + 20) (170 + 20) (2 * 9 + 2) t' → Tl 2000 560 50 t' := fun t' h => h.up (by decide) (by decide) (by decide)
    -- texts near it
    refine ⟨fun σ' H' => ∃ r : Addr, σ' = sg a b y2 (some v) (some (.str (mfT g))) (some (.ref r)) x6 x7 ∧ Bag H' b ∧ r ≠ b ∧ TsAt H' r 433, ?_, ?_⟩
    · refine ⟨_, rfl, 12, rfl, by decide, by decide, fun D nD => ?_⟩
      have Db : D ≠ b := (ne_of_none hb4 nD).symm
      obtain ⟨lc, cs0, O4, hlc, lcb⟩ := B4.own
      have Dl : D ≠ lc := (ne_of_none hlc nD).symm
      refine lc_range (lo := 0) (n := 12) (fun j Hc => Chb b H4 Hc ∧ Bag Hc b ∧ ∃ us : List PySem.Str, Hc D = some (.lst (us.map V.str)) ∧ us.length = j ∧ ∀ t ∈ us, Tl 2000 560 50 t) ⟨Chb.new nD, B4.same (new_same nD), [], upd_same, rfl, fun n hn => by cases hn⟩ (fun j Hc hj hP => ?_) (fun Hc hP => ?_)
      · obtain ⟨c7, B7, us, d1, d2, d3⟩ := hP
        refine ⟨rfl, _, rfl, _, rfl, b, mfT g, 420, 170, 9, 20, rfl, B7, tm, by decide, by decide, by decide, gl2, by decide, fun H8 t' c8 B8 tm' => ?_⟩
        have d8 := c8 _ _ Db d1
        have c48 := c7.trans c8
        refine ⟨us.map V.str, d8, by rw [List.length_map, sizeLine_eq]; omega, c48.put nD Db, (B8.set (O4.chb c48) Db Dl).1, us ++ [t'], ?_, by rw [List.length_append, d2]; rfl, fun m hm => ?_⟩
        · rw [List.map_append]
          exact upd_same
        · rcases List.mem_append.mp hm with e | e
          · exact d3 m e
          · rw [List.mem_singleton] at e
            subst e
            exact near1 _ tm'
      · obtain ⟨c7, B7, us, d1, d2, d3⟩ := hP
        have h7 := c7 _ _ rb hr4
        refine ⟨r, D, _, _, rfl, rfl, h7, d1, by rw [List.length_map, List.length_map]; omega, fun r2 n2 => ?_⟩
        obtain ⟨o7, hb7⟩ := B7.lst
        have r2b : r2 ≠ b := (ne_of_none hb7 n2).symm
        rw [← List.map_append]
        have s8 := new_same (o := .lst ((ts ++ us).map V.str)) n2
        have h8 : upd Hc r2 (.lst ((ts ++ us).map V.str)) r2 = some (.lst ((ts ++ us).map V.str)) := upd_same
        have B8 := B7.same s8
        generalize upd Hc r2 (.lst ((ts ++ us).map V.str)) = H8 at s8 h8 B8 ⊢
        refine ⟨_, rfl, _, rfl, _, rfl, b, mfT g, 420, 170, 9, 20, rfl, B8, tm, by decide, by decide, by decide, gl2, by decide, fun H9 t1 c9 B9 tm1 => ?_⟩
        refine ⟨b, t1, 860, 190, 20, 190, rfl, B9, tm1, by decide, by decide, by decide, tm1.line, by decide, fun Hd t2 cd Bd tm2 => ?_⟩
        refine ⟨by show 1 ≤ sizeLine; decide, fun m1 k1 => ?_⟩
        have hd := cd _ _ r2b (c9 _ _ r2b h8)
        refine ⟨r2, m1, _, [V.str t2], rfl, rfl, new_ne hd k1, upd_same, by rw [List.length_map, List.length_append]; show _ + 1 ≤ _; omega, fun r3 n3 => ?_⟩
        have se := (new_same (o := .lst [V.str t2]) k1).trans (new_same (o := .lst ((ts ++ us).map V.str ++ [V.str t2])) n3)
        have Be := Bd.same se
        obtain ⟨od, hbd⟩ := (Bd.same (new_same (o := .lst [V.str t2]) k1)).lst
        refine ⟨r3, rfl, Be, (ne_of_none hbd n3).symm, ts ++ us ++ [t2], by rw [upd_same, List.map_append (l₂ := [t2])]; rfl, by rw [List.length_append, List.length_append, List.length_singleton]; omega, fun t ht => ?_⟩
        rcases List.mem_append.mp ht with e | e
        · rcases List.mem_append.mp e with e | e
          · exact ok4 t e
          · exact d3 t e
        · rw [List.mem_singleton.mp e]
          exact tm2.up (by decide) (by decide) (by decide)
    clear B4 hb4 hr4 l4 ok4
    rintro σ' H4 ⟨r, rfl, B4, rb, ts, hr4, l4, ok4⟩
    -- far
    refine ⟨fun σ' H' => ∃ fr : PySem.Str, σ' = sg a b y2 (some v) (some (.str (mfT g))) (some (.ref r)) (some (.str fr)) x7 ∧ fr ∈ FRL ∧ Bag H' b ∧ H' r = some (.lst (ts.map V.str)), ?_, ?_⟩
    · refine ⟨_, rfl, by show 3 ≤ sizeLine; decide, fun m1 n1 => ?_⟩
      obtain ⟨o4, hb4⟩ := B4.lst
      refine ⟨b, m1, _, rfl, B4.same (new_same n1), upd_same, (ne_of_none hb4 n1).symm, by simp, by show 3 ≤ 1000; decide, fun H5 x c5 B5 hx => ?_⟩
      obtain ⟨n, rfl, mo, fm, fl⟩ := far_of hx
      have k8 : ("store/c1" : PySem.Str).length = 8 := by decide +kernel
      exact ⟨_, n, rfl, rfl, mo, _, _, rfl, rfl, by rw [k8]; omega, _, rfl, fm, B5, c5 _ _ rb (new_ne hr4 n1)⟩
    clear B4 hr4
    rintro σ' H4 ⟨fr, rfl, hfr, B4, hr4⟩
    obtain ⟨f1, f2, f3⟩ := frl_ok fr hfr
    have f1 := tm_of f1
    have f2 := tm_of f2
    -- texts of far shelves
    refine ⟨fun σ' H' => ∃ r : Addr, σ' = sg a b y2 (some v) (some (.str (mfT g))) (some (.ref r)) (some (.str fr)) x7 ∧ Bag H' b ∧ r ≠ b ∧ TsAt H' r 435, ?_, ?_⟩
    · have k1 : ("entries 0\nlock " : PySem.Str).length = 15 := by decide +kernel
      have k2 : ("entries 1\na " : PySem.Str).length = 12 := by decide +kernel
      have k3 : ("\nlock -" : PySem.Str).length = 7 := by decide +kernel
      refine ⟨_, rfl, _, rfl, _, _, rfl, rfl, by rw [k1]; omega, _, rfl, _, _, rfl, rfl, by rw [k2]; omega, _, _, rfl, rfl, by rw [strLen_append, k2, k3]; omega, by show 2 ≤ sizeLine; decide, fun m1 n1 => ?_⟩
      refine ⟨r, m1, _, _, rfl, rfl, new_ne hr4 n1, upd_same, by rw [List.length_map]; show _ + 2 ≤ _; omega, fun r2 n2 => ?_⟩
      have s1 := new_same (o := .lst [V.str ("entries 0\nlock " ++ fr), V.str ("entries 1\na " ++ fr ++ "\nlock -")]) n1
      obtain ⟨o5, hb5⟩ := (B4.same s1).lst
      refine ⟨r2, rfl, (B4.same s1).same (new_same n2), (ne_of_none hb5 n2).symm, ts ++ ["entries 0\nlock " ++ fr, "entries 1\na " ++ fr ++ "\nlock -"], by rw [upd_same, List.map_append]; rfl, by rw [List.length_append]; show _ + 2 ≤ _; omega, fun t ht => ?_⟩
      rcases List.mem_append.mp ht with e | e
      · exact ok4 t e
      · simp only [List.mem_cons, List.not_mem_nil, or_false] at e
        rcases e with rfl | rfl
        · exact f1
        · exact f2
    clear B4 hr4 l4 ok4
    rintro σ' H4 ⟨r, rfl, B4, rb, ts, hr4, l4, ok4⟩
    have eO : ([V.str "", V.str "entries", V.str "entries 0", V.str "entries 0\nlock -", V.str "entries 0\nlock -\n", V.str "entries 1\nlock -"] : List V) = OTL.map V.str := rfl
    refine ⟨_, rfl, by show 6 ≤ sizeLine; decide, fun m1 n1 => ?_⟩
    rw [eO]
    refine ⟨r, m1, _, OTL.map V.str, rfl, rfl, new_ne hr4 n1, upd_same, by rw [List.length_map]; show _ + 6 ≤ _; omega, fun r2 n2 => ?_⟩
    rw [← List.map_append]
    have s5 := (new_same (o := .lst (OTL.map V.str)) n1).trans (new_same (o := .lst ((ts ++ OTL).map V.str)) n2)
    have h5 : upd (upd H4 m1 (.lst (OTL.map V.str))) r2 (.lst ((ts ++ OTL).map V.str)) r2 = some (.lst ((ts ++ OTL).map V.str)) := upd_same
    have B5 := B4.same s5
    show ∃ l, V.ref r2 = V.ref l ∧ _
    generalize upd (upd H4 m1 (.lst (OTL.map V.str))) r2 (.lst ((ts ++ OTL).map V.str)) = H5 at h5 B5 ⊢
    have okA : ∀ t ∈ ts ++ OTL, Tl 2000 560 50 t := fun t ht => (List.mem_append.mp ht).elim (ok4 t) fun h => tm_of (otl_ok t h)
    generalize ts ++ OTL = us at h5 okA ⊢
    refine ⟨r2, rfl, ⟨_, .inl (.inl h5)⟩, ?_⟩
    refine for_list (K := K) (a := r2) (xs := us.map V.str) (fun i σ' H' => (∃ x7, σ' = sg a b y2 (some v) (some (.str (mfT g))) (some (.ref r)) (some (.str fr)) x7) ∧ Same H5 H')
      ⟨⟨_, rfl⟩, Same.refl _⟩ (fun i σ' H' _ hP => .inl (.inl (hP.2 _ _ h5))) (fun i x σ' H6 hx hP => ?_) (fun σ' H6 hP => ?_)
    · obtain ⟨⟨z7, rfl⟩, s6⟩ := hP
      rw [List.getElem?_map] at hx
      obtain ⟨t, ht, rfl⟩ := Option.map_eq_some_iff.mp hx
      have tt := okA t (List.mem_of_getElem? ht)
      have ttl := tt.t.len
      have tln := tt.lines
      refine ⟨_, rfl, t, rfl, by omega, fun H7 v1 s7 r1 => ⟨_, rfl, t, rfl, tt.t.up (by decide) (by decide), by omega, fun H8 v2 s8 r3 => ?_⟩⟩
      exact ⟨_, _, b, readDM t, rfl, (r1 b).same s8, r3 b, gd_readM tt.t (by decide), true, rfl, ⟨_, rfl⟩, (s6.trans s7).trans s8⟩
    · obtain ⟨⟨z7, rfl⟩, s6⟩ := hP
      exact ⟨⟨_, _, _, _, _, _, rfl⟩, B5.same s6⟩
end
end V73
/-! What the top has written. -/
namespace V73
open PySem PySem.Spec PyProof.Rows L2 TL RX DK
theorem all_mk {P : Program} {w : World} {K : PySem.W.Frag} {h : Heap} {mg : PySem.Str → Option Value} {fa : Addr} (X : K.In h) (G : h.Ns mainGlobals mg) (hfa : mg "law" = some (.ref fa))
    {fT : Addr} {odT anT : Option Addr} {slT : Array (Option Value)} {ocT kVT dcT pmT cdT ctT : Value} {fO : Addr} {odO anO : Option Addr} {slO : Array (Option Value)} {ocO kVO dcO pmO cdO ctO : Value} {fM : Addr} {odM anM : Option Addr} {slM : Array (Option Value)} {ocM kVM dcM pmM cdM ctM : Value} {fN1 : Addr} {odN1 anN1 : Option Addr} {slN1 : Array (Option Value)} {ocN1 kVN1 dcN1 pmN1 cdN1 ctN1 : Value} {fN2 : Addr} {odN2 anN2 : Option Addr} {slN2 : Array (Option Value)} {ocN2 kVN2 dcN2 pmN2 cdN2 ctN2 : Value} {fN3 : Addr} {odN3 anN3 : Option Addr} {slN3 : Array (Option Value)} {ocN3 kVN3 dcN3 pmN3 cdN3 ctN3 : Value} {fN4 : Addr} {odN4 anN4 : Option Addr} {slN4 : Array (Option Value)} {ocN4 kVN4 dcN4 pmN4 cdN4 ctN4 : Value} {fL1 : Addr} {odL1 anL1 : Option Addr} {slL1 : Array (Option Value)} {ocL1 kVL1 dcL1 pmL1 cdL1 ctL1 : Value} {fL2 : Addr} {odL2 anL2 : Option Addr} {slL2 : Array (Option Value)} {ocL2 kVL2 dcL2 pmL2 cdL2 ctL2 : Value} {fL3 : Addr} {odL3 anL3 : Option Addr} {slL3 : Array (Option Value)} {ocL3 kVL3 dcL3 pmL3 cdL3 ctL3 : Value} {fL4 : Addr} {odL4 anL4 : Option Addr} {slL4 : Array (Option Value)} {ocL4 kVL4 dcL4 pmL4 cdL4 ctL4 : Value} {fB : Addr} {odB anB : Option Addr} {slB : Array (Option Value)} {ocB kVB dcB pmB cdB ctB : Value} {fAl : Addr} {odAl anAl : Option Addr} {slAl : Array (Option Value)} {ocAl kVAl dcAl pmAl cdAl ctAl : Value} {fLo : Addr} {odLo anLo : Option Addr} {slLo : Array (Option Value)} {ocLo kVLo dcLo pmLo cdLo ctLo : Value} {fNe : Addr} {odNe anNe : Option Addr} {slNe : Array (Option Value)} {ocNe kVNe dcNe pmNe cdNe ctNe : Value} {fLt : Addr} {odLt anLt : Option Addr} {slLt : Array (Option Value)} {ocLt kVLt dcLt pmLt cdLt ctLt : Value} {fWt : Addr} {odWt anWt : Option Addr} {slWt : Array (Option Value)} {ocWt kVWt dcWt pmWt cdWt ctWt : Value} {fRd : Addr} {odRd anRd : Option Addr} {slRd : Array (Option Value)} {ocRd kVRd dcRd pmRd cdRd ctRd : Value} {fIs : Addr} {odIs anIs : Option Addr} {slIs : Array (Option Value)} {ocIs kVIs dcIs pmIs cdIs ctIs : Value} {fWr : Addr} {odWr anWr : Option Addr} {slWr : Array (Option Value)} {ocWr kVWr dcWr pmWr cdWr ctWr : Value} {fAs : Addr} {odAs anAs : Option Addr} {slAs : Array (Option Value)} {ocAs kVAs dcAs pmAs cdAs ctAs : Value} {fW : Addr} {odW anW : Option Addr} {slW : Array (Option Value)} {ocW kVW dcW pmW cdW ctW : Value} {tk20 : Tok} {tkLt : Tok} {tkNz : Tok} {tk19 : Tok} {tkFg : Tok} {tkSh : Tok} {tkDs : Tok}
    (gT : PySem.W.nsIn K mainGlobals "_law_take" = some (some (.ref fT)))
    (gO : PySem.W.nsIn K mainGlobals "_law_one" = some (some (.ref fO)))
    (gM : PySem.W.nsIn K mainGlobals "_law_mixed" = some (some (.ref fM)))
    (gN1 : PySem.W.nsIn K mainGlobals "is_name" = some (some (.ref fN1)))
    (gN2 : PySem.W.nsIn K mainGlobals "is_path" = some (some (.ref fN2)))
    (gN3 : PySem.W.nsIn K mainGlobals "number_behind" = some (some (.ref fN3)))
    (gN4 : PySem.W.nsIn K mainGlobals "is_shelf" = some (some (.ref fN4)))
    (gL1 : PySem.W.nsIn K mainGlobals "_law_is_name" = some (some (.ref fL1)))
    (gL2 : PySem.W.nsIn K mainGlobals "_law_is_path" = some (some (.ref fL2)))
    (gL3 : PySem.W.nsIn K mainGlobals "_law_number_of" = some (some (.ref fL3)))
    (gL4 : PySem.W.nsIn K mainGlobals "_law_is_shelf" = some (some (.ref fL4)))
    (gB : PySem.W.nsIn K mainGlobals "_law_bag" = some (some (.ref fB)))
    (gAl : PySem.W.nsIn K mainGlobals "_law_alike" = some (some (.ref fAl)))
    (gLo : PySem.W.nsIn K mainGlobals "_law_drawn_manifest" = some (some (.ref fLo)))
    (gNe : PySem.W.nsIn K mainGlobals "_law_near_text" = some (some (.ref fNe)))
    (gLt : PySem.W.nsIn K mainGlobals "manifest_text" = some (some (.ref fLt)))
    (gWt : PySem.W.nsIn K mainGlobals "_law_manifest_text" = some (some (.ref fWt)))
    (gRd : PySem.W.nsIn K mainGlobals "read_manifest" = some (some (.ref fRd)))
    (gIs : PySem.W.nsIn K mainGlobals "is_entry" = some (some (.ref fIs)))
    (gWr : PySem.W.nsIn K mainGlobals "_law_read_manifest" = some (some (.ref fWr)))
    (gAs : PySem.W.nsIn K mainGlobals "is_ascending" = some (some (.ref fAs)))
    (gW : PySem.W.nsIn K mainGlobals "law" = some (some (.ref fW)))
    (lT : K.lookup fT = some ⟨ocT, odT, .func (PySem.W.fnOf "_law_take" "_law_take" (defArgs sTake) (defBody sTake) (defScope sTake) .none kVT dcT pmT anT cdT ctT), slT⟩)
    (lO : K.lookup fO = some ⟨ocO, odO, .func (PySem.W.fnOf "_law_one" "_law_one" (defArgs sOne) (defBody sOne) (defScope sOne) .none kVO dcO pmO anO cdO ctO), slO⟩)
    (lM : K.lookup fM = some ⟨ocM, odM, .func (PySem.W.fnOf "_law_mixed" "_law_mixed" (defArgs sMixed) (defBody sMixed) (defScope sMixed) .none kVM dcM pmM anM cdM ctM), slM⟩)
    (lN1 : K.lookup fN1 = some ⟨ocN1, odN1, .func (PySem.W.fnOf "is_name" "is_name" (defArgs sIsName) (defBody sIsName) (defScope sIsName) .none kVN1 dcN1 pmN1 anN1 cdN1 ctN1), slN1⟩)
    (lN2 : K.lookup fN2 = some ⟨ocN2, odN2, .func (PySem.W.fnOf "is_path" "is_path" (defArgs sIsPath) (defBody sIsPath) (defScope sIsPath) .none kVN2 dcN2 pmN2 anN2 cdN2 ctN2), slN2⟩)
    (lN3 : K.lookup fN3 = some ⟨ocN3, odN3, .func (PySem.W.fnOf "number_behind" "number_behind" (defArgs sNumB) (defBody sNumB) (defScope sNumB) .none kVN3 dcN3 pmN3 anN3 cdN3 ctN3), slN3⟩)
    (lN4 : K.lookup fN4 = some ⟨ocN4, odN4, .func (PySem.W.fnOf "is_shelf" "is_shelf" (defArgs sIsShelf) (defBody sIsShelf) (defScope sIsShelf) .none kVN4 dcN4 pmN4 anN4 cdN4 ctN4), slN4⟩)
    (lL1 : K.lookup fL1 = some ⟨ocL1, odL1, .func (PySem.W.fnOf "_law_is_name" "_law_is_name" (defArgs sLName) (defBody sLName) (defScope sLName) .none kVL1 dcL1 pmL1 anL1 cdL1 ctL1), slL1⟩)
    (lL2 : K.lookup fL2 = some ⟨ocL2, odL2, .func (PySem.W.fnOf "_law_is_path" "_law_is_path" (defArgs sLPath) (defBody sLPath) (defScope sLPath) .none kVL2 dcL2 pmL2 anL2 cdL2 ctL2), slL2⟩)
    (lL3 : K.lookup fL3 = some ⟨ocL3, odL3, .func (PySem.W.fnOf "_law_number_of" "_law_number_of" (defArgs sLNum) (defBody sLNum) (defScope sLNum) .none kVL3 dcL3 pmL3 anL3 cdL3 ctL3), slL3⟩)
    (lL4 : K.lookup fL4 = some ⟨ocL4, odL4, .func (PySem.W.fnOf "_law_is_shelf" "_law_is_shelf" (defArgs sLShelf) (defBody sLShelf) (defScope sLShelf) .none kVL4 dcL4 pmL4 anL4 cdL4 ctL4), slL4⟩)
    (lB : K.lookup fB = some ⟨ocB, odB, .func (PySem.W.fnOf "_law_bag" "_law_bag" (defArgs sBag) (defBody sBag) (defScope sBag) .none kVB dcB pmB anB cdB ctB), slB⟩)
    (lAl : K.lookup fAl = some ⟨ocAl, odAl, .func (PySem.W.fnOf "_law_alike" "_law_alike" (defArgs sAlike) (defBody sAlike) (defScope sAlike) .none kVAl dcAl pmAl anAl cdAl ctAl), slAl⟩)
    (lLo : K.lookup fLo = some ⟨ocLo, odLo, .func (PySem.W.fnOf "_law_drawn_manifest" "_law_drawn_manifest" (defArgs sDrawn) (defBody sDrawn) (defScope sDrawn) .none kVLo dcLo pmLo anLo cdLo ctLo), slLo⟩)
    (lNe : K.lookup fNe = some ⟨ocNe, odNe, .func (PySem.W.fnOf "_law_near_text" "_law_near_text" (defArgs sNear) (defBody sNear) (defScope sNear) .none kVNe dcNe pmNe anNe cdNe ctNe), slNe⟩)
    (lLt : K.lookup fLt = some ⟨ocLt, odLt, .func (PySem.W.fnOf "manifest_text" "manifest_text" (defArgs sMfT) (defBody sMfT) (defScope sMfT) .none kVLt dcLt pmLt anLt cdLt ctLt), slLt⟩)
    (lWt : K.lookup fWt = some ⟨ocWt, odWt, .func (PySem.W.fnOf "_law_manifest_text" "_law_manifest_text" (defArgs sLMfT) (defBody sLMfT) (defScope sLMfT) .none kVWt dcWt pmWt anWt cdWt ctWt), slWt⟩)
    (lRd : K.lookup fRd = some ⟨ocRd, odRd, .func (PySem.W.fnOf "read_manifest" "read_manifest" (defArgs sReadM) (defBody sReadM) (defScope sReadM) .none kVRd dcRd pmRd anRd cdRd ctRd), slRd⟩)
    (lIs : K.lookup fIs = some ⟨ocIs, odIs, .func (PySem.W.fnOf "is_entry" "is_entry" (defArgs sEnt) (defBody sEnt) (defScope sEnt) .none kVIs dcIs pmIs anIs cdIs ctIs), slIs⟩)
    (lWr : K.lookup fWr = some ⟨ocWr, odWr, .func (PySem.W.fnOf "_law_read_manifest" "_law_read_manifest" (defArgs sLReadM) (defBody sLReadM) (defScope sLReadM) .none kVWr dcWr pmWr anWr cdWr ctWr), slWr⟩)
    (lAs : K.lookup fAs = some ⟨ocAs, odAs, .func (PySem.W.fnOf "is_ascending" "is_ascending" (defArgs sAscd) (defBody sAscd) (defScope sAscd) .none kVAs dcAs pmAs anAs cdAs ctAs), slAs⟩)
    (lW : K.lookup fW = some ⟨ocW, odW, .func (PySem.W.fnOf "law" "law" (defArgs sLaw) (defBody sLaw) (defScope sLaw) .none kVW dcW pmW anW cdW ctW), slW⟩)
    (q20 : PySem.W.nsIn K mainGlobals "LONGEST_NAME" = some (some (.int 20 tk20)))
    (qLt : PySem.W.nsIn K mainGlobals "LETTERS" = some (some (.str Lt tkLt)))
    (qNz : PySem.W.nsIn K mainGlobals "NAME_SIGNS" = some (some (.str Nz tkNz)))
    (q19 : PySem.W.nsIn K mainGlobals "MOST_FIGURES" = some (some (.int 19 tk19)))
    (qFg : PySem.W.nsIn K mainGlobals "FIGURES" = some (some (.str Fg tkFg)))
    (qSh : PySem.W.nsIn K mainGlobals "SHELF" = some (some (.str ShP tkSh)))
    (qDs : PySem.W.nsIn K mainGlobals "NO_SHELF" = some (some (.str "-" tkDs)))
    (kT : (PySem.W.codeIn K cdT "_law_take" && PySem.W.keepIn K (.ref fT)) = true)
    (kO : (PySem.W.codeIn K cdO "_law_one" && PySem.W.keepIn K (.ref fO)) = true)
    (kM : (PySem.W.codeIn K cdM "_law_mixed" && PySem.W.keepIn K (.ref fM)) = true)
    (kN1 : (PySem.W.codeIn K cdN1 "is_name" && PySem.W.keepIn K (.ref fN1)) = true)
    (kN2 : (PySem.W.codeIn K cdN2 "is_path" && PySem.W.keepIn K (.ref fN2)) = true)
    (kN3 : (PySem.W.codeIn K cdN3 "number_behind" && PySem.W.keepIn K (.ref fN3)) = true)
    (kN4 : (PySem.W.codeIn K cdN4 "is_shelf" && PySem.W.keepIn K (.ref fN4)) = true)
    (kL1 : (PySem.W.codeIn K cdL1 "_law_is_name" && PySem.W.keepIn K (.ref fL1)) = true)
    (kL2 : (PySem.W.codeIn K cdL2 "_law_is_path" && PySem.W.keepIn K (.ref fL2)) = true)
    (kL3 : (PySem.W.codeIn K cdL3 "_law_number_of" && PySem.W.keepIn K (.ref fL3)) = true)
    (kL4 : (PySem.W.codeIn K cdL4 "_law_is_shelf" && PySem.W.keepIn K (.ref fL4)) = true)
    (kB : (PySem.W.codeIn K cdB "_law_bag" && PySem.W.keepIn K (.ref fB)) = true)
    (kAl : (PySem.W.codeIn K cdAl "_law_alike" && PySem.W.keepIn K (.ref fAl)) = true)
    (kLo : (PySem.W.codeIn K cdLo "_law_drawn_manifest" && PySem.W.keepIn K (.ref fLo)) = true)
    (kNe : (PySem.W.codeIn K cdNe "_law_near_text" && PySem.W.keepIn K (.ref fNe)) = true)
    (kLt : (PySem.W.codeIn K cdLt "manifest_text" && PySem.W.keepIn K (.ref fLt)) = true)
    (kWt : (PySem.W.codeIn K cdWt "_law_manifest_text" && PySem.W.keepIn K (.ref fWt)) = true)
    (kRd : (PySem.W.codeIn K cdRd "read_manifest" && PySem.W.keepIn K (.ref fRd)) = true)
    (kIs : (PySem.W.codeIn K cdIs "is_entry" && PySem.W.keepIn K (.ref fIs)) = true)
    (kWr : (PySem.W.codeIn K cdWr "_law_read_manifest" && PySem.W.keepIn K (.ref fWr)) = true)
    (kAs : (PySem.W.codeIn K cdAs "is_ascending" && PySem.W.keepIn K (.ref fAs)) = true)
    (kW : (PySem.W.codeIn K cdW "law" && PySem.W.keepIn K (.ref fW)) = true)
    (BN : ([("int" : PySem.Str), ("len" : PySem.Str), ("range" : PySem.Str), ("tuple" : PySem.Str), ("repr" : PySem.Str), ("abs" : PySem.Str), ("isinstance" : PySem.Str), ("str" : PySem.Str), ("all" : PySem.Str), ("sorted" : PySem.Str), ("set" : PySem.Str)].all fun x => PySem.W.nsIn K mainGlobals x == some none) = true) :
    ∃ fd : FuncData, (∀ (s : Shared) (v : Value), BindsTo s fd ⟨[v], []⟩ [("script", v)]) ∧ ∀ base : Heap, K.In base → base.Ns mainGlobals mg → Ok0 P w K mg base 7 fa fd ["script"] (spLaw K) := by
  have e := hfa.symm.trans (PySem.W.mg_of X G gW); cases e
  have nn : ∀ x : PySem.Str, x ∈ [("int" : PySem.Str), ("len" : PySem.Str), ("range" : PySem.Str), ("tuple" : PySem.Str), ("repr" : PySem.Str), ("abs" : PySem.Str), ("isinstance" : PySem.Str), ("str" : PySem.Str), ("all" : PySem.Str), ("sorted" : PySem.Str), ("set" : PySem.Str)] → mg x = none := fun x hx => PySem.W.mg_none_of X G (beq_iff_eq.mp (List.all_eq_true.mp BN x hx))
  have kT' := Bool.and_eq_true_iff.mp kT
  have FT := fun_mk (st := sTake) lT kT'.1 kT'.2
  have bT := FT.binds (ps := ["bag", "many"]) fun _ _ _ _ _ _ us hl => match us, hl with | [_, _], _ => rfl
  have kO' := Bool.and_eq_true_iff.mp kO
  have FO := fun_mk (st := sOne) lO kO'.1 kO'.2
  have bO := FO.binds (ps := ["bag", "things"]) fun _ _ _ _ _ _ us hl => match us, hl with | [_, _], _ => rfl
  have kM' := Bool.and_eq_true_iff.mp kM
  have FM := fun_mk (st := sMixed) lM kM'.1 kM'.2
  have bM := FM.binds (ps := ["bag", "things"]) fun _ _ _ _ _ _ us hl => match us, hl with | [_, _], _ => rfl
  have kN1' := Bool.and_eq_true_iff.mp kN1
  have FN1 := fun_mk (st := sIsName) lN1 kN1'.1 kN1'.2
  have bN1 := FN1.binds (ps := ["thing"]) fun _ _ _ _ _ _ us hl => match us, hl with | [_], _ => rfl
  have kN2' := Bool.and_eq_true_iff.mp kN2
  have FN2 := fun_mk (st := sIsPath) lN2 kN2'.1 kN2'.2
  have bN2 := FN2.binds (ps := ["thing"]) fun _ _ _ _ _ _ us hl => match us, hl with | [_], _ => rfl
  have kN3' := Bool.and_eq_true_iff.mp kN3
  have FN3 := fun_mk (st := sNumB) lN3 kN3'.1 kN3'.2
  have bN3 := FN3.binds (ps := ["head", "path"]) fun _ _ _ _ _ _ us hl => match us, hl with | [_, _], _ => rfl
  have kN4' := Bool.and_eq_true_iff.mp kN4
  have FN4 := fun_mk (st := sIsShelf) lN4 kN4'.1 kN4'.2
  have bN4 := FN4.binds (ps := ["path"]) fun _ _ _ _ _ _ us hl => match us, hl with | [_], _ => rfl
  have kL1' := Bool.and_eq_true_iff.mp kL1
  have FL1 := fun_mk (st := sLName) lL1 kL1'.1 kL1'.2
  have bL1 := FL1.binds (ps := ["word"]) fun _ _ _ _ _ _ us hl => match us, hl with | [_], _ => rfl
  have kL2' := Bool.and_eq_true_iff.mp kL2
  have FL2 := fun_mk (st := sLPath) lL2 kL2'.1 kL2'.2
  have bL2 := FL2.binds (ps := ["thing"]) fun _ _ _ _ _ _ us hl => match us, hl with | [_], _ => rfl
  have kL3' := Bool.and_eq_true_iff.mp kL3
  have FL3 := fun_mk (st := sLNum) lL3 kL3'.1 kL3'.2
  have bL3 := FL3.binds (ps := ["path", "head"]) fun _ _ _ _ _ _ us hl => match us, hl with | [_, _], _ => rfl
  have kL4' := Bool.and_eq_true_iff.mp kL4
  have FL4 := fun_mk (st := sLShelf) lL4 kL4'.1 kL4'.2
  have bL4 := FL4.binds (ps := ["thing"]) fun _ _ _ _ _ _ us hl => match us, hl with | [_], _ => rfl
  have kB' := Bool.and_eq_true_iff.mp kB
  have FB := fun_mk (st := sBag) lB kB'.1 kB'.2
  have bB := FB.binds (ps := ["script"]) fun _ _ _ _ _ _ us hl => match us, hl with | [_], _ => rfl
  have kAl' := Bool.and_eq_true_iff.mp kAl
  have FAl := fun_mk (st := sAlike) lAl kAl'.1 kAl'.2
  have bAl := FAl.binds (ps := ["found", "due"]) fun _ _ _ _ _ _ us hl => match us, hl with | [_, _], _ => rfl
  have kLo' := Bool.and_eq_true_iff.mp kLo
  have FLo := fun_mk (st := sDrawn) lLo kLo'.1 kLo'.2
  have bLo := FLo.binds (ps := ["bag"]) fun _ _ _ _ _ _ us hl => match us, hl with | [_], _ => rfl
  have kNe' := Bool.and_eq_true_iff.mp kNe
  have FNe := fun_mk (st := sNear) lNe kNe'.1 kNe'.2
  have bNe := FNe.binds (ps := ["bag", "text"]) fun _ _ _ _ _ _ us hl => match us, hl with | [_, _], _ => rfl
  have kLt' := Bool.and_eq_true_iff.mp kLt
  have FLt := fun_mk (st := sMfT) lLt kLt'.1 kLt'.2
  have bLt := FLt.binds (ps := ["manifest"]) fun _ _ _ _ _ _ us hl => match us, hl with | [_], _ => rfl
  have kWt' := Bool.and_eq_true_iff.mp kWt
  have FWt := fun_mk (st := sLMfT) lWt kWt'.1 kWt'.2
  have bWt := FWt.binds (ps := ["manifest"]) fun _ _ _ _ _ _ us hl => match us, hl with | [_], _ => rfl
  have kRd' := Bool.and_eq_true_iff.mp kRd
  have FRd := fun_mk (st := sReadM) lRd kRd'.1 kRd'.2
  have bRd := FRd.binds (ps := ["text"]) fun _ _ _ _ _ _ us hl => match us, hl with | [_], _ => rfl
  have kIs' := Bool.and_eq_true_iff.mp kIs
  have FIs := fun_mk (st := sEnt) lIs kIs'.1 kIs'.2
  have bIs := FIs.binds (ps := ["words"]) fun _ _ _ _ _ _ us hl => match us, hl with | [_], _ => rfl
  have kWr' := Bool.and_eq_true_iff.mp kWr
  have FWr := fun_mk (st := sLReadM) lWr kWr'.1 kWr'.2
  have bWr := FWr.binds (ps := ["text"]) fun _ _ _ _ _ _ us hl => match us, hl with | [_], _ => rfl
  have kAs' := Bool.and_eq_true_iff.mp kAs
  have FAs := fun_mk (st := sAscd) lAs kAs'.1 kAs'.2
  have bAs := FAs.binds (ps := ["row"]) fun _ _ _ _ _ _ us hl => match us, hl with | [_], _ => rfl
  have kW' := Bool.and_eq_true_iff.mp kW
  have FW := fun_mk (st := sLaw) lW kW'.1 kW'.2
  have bW := FW.binds (ps := ["script"]) fun _ _ _ _ _ _ us hl => match us, hl with | [_], _ => rfl
  have D : Dr K mg fT fO fM _ _ _ := ⟨FT, bT, PySem.W.mg_of X G gT, FO, bO, PySem.W.mg_of X G gO, FM, bM, PySem.W.mg_of X G gM, (nn "int" (by decide +kernel)), (nn "len" (by decide +kernel)), (nn "range" (by decide +kernel)), (nn "tuple" (by decide +kernel)), (nn "str" (by decide +kernel)), (nn "sorted" (by decide +kernel))⟩
  have N : Cn K mg fN1 fN2 fN3 fN4 _ _ _ _ tk20 tkLt tkNz tk19 tkFg tkSh := ⟨FN1, bN1, PySem.W.mg_of X G gN1, FN2, bN2, PySem.W.mg_of X G gN2, FN3, bN3, PySem.W.mg_of X G gN3, FN4, bN4, PySem.W.mg_of X G gN4, PySem.W.mg_of X G q20, PySem.W.mg_of X G qLt, PySem.W.mg_of X G qNz, PySem.W.mg_of X G q19, PySem.W.mg_of X G qFg, PySem.W.mg_of X G qSh, (nn "isinstance" (by decide +kernel)), (nn "str" (by decide +kernel)), (nn "len" (by decide +kernel)), (nn "all" (by decide +kernel)), (nn "int" (by decide +kernel))⟩
  have L : Ln K mg fL1 fL2 fL3 fL4 _ _ _ _ := ⟨FL1, bL1, PySem.W.mg_of X G gL1, FL2, bL2, PySem.W.mg_of X G gL2, FL3, bL3, PySem.W.mg_of X G gL3, FL4, bL4, PySem.W.mg_of X G gL4, (nn "isinstance" (by decide +kernel)), (nn "str" (by decide +kernel)), (nn "len" (by decide +kernel)), (nn "int" (by decide +kernel))⟩
  have T : Lx K mg fB fAl fLo fNe fLt fWt fRd fIs fWr fAs _ _ _ _ _ _ _ _ _ _ tkDs := ⟨FB, bB, PySem.W.mg_of X G gB, FAl, bAl, PySem.W.mg_of X G gAl, FLo, bLo, PySem.W.mg_of X G gLo, FNe, bNe, PySem.W.mg_of X G gNe, FLt, bLt, PySem.W.mg_of X G gLt, FWt, bWt, PySem.W.mg_of X G gWt, FRd, bRd, PySem.W.mg_of X G gRd, FIs, bIs, PySem.W.mg_of X G gIs, FWr, bWr, PySem.W.mg_of X G gWr, FAs, bAs, PySem.W.mg_of X G gAs, PySem.W.mg_of X G qDs, (nn "repr" (by decide +kernel)), (nn "abs" (by decide +kernel)), (nn "set" (by decide +kernel))⟩
  exact ⟨PySem.W.fnOf "law" "law" (defArgs sLaw) (defBody sLaw) (defScope sLaw) .none kVW dcW pmW anW cdW ctW, fun s v => .of_eq rfl, fun base _ _ => ok_law FW D N L T⟩
end V73
open PySem PySem.W PyProof.Rows
set_option maxHeartbeats 0 in
theorem PySem.Challenge.cw_packsworn_k73_manifests_and_texts_holds : PySem.Challenge.rw_packsworn_k73_manifests_and_texts.Holds := by
  w_on; o_law; k_head; (case hw => w_witness2)
  k_fill
  refine RX.walk_of0 (l := PySem.Challenge.rw_packsworn_k73_manifests_and_texts) (n := 63) (k := 7) (x := "script") (sp := fun K => V73.spLaw K) rfl (by decide) rfl ⟨rfl, by decide, by decide⟩ (fun w h Y => PySem.W.kIn_of Y) ?F (fun _ _ a ns hl _ hS => ⟨a, ns, rfl, hS, hl, fun _ => rfl⟩)
  case F =>
    intro w mg fa h KX G hmg
    refine' V73.all_mk KX G hmg ?gT ?gO ?gM ?gN1 ?gN2 ?gN3 ?gN4 ?gL1 ?gL2 ?gL3 ?gL4 ?gB ?gAl ?gLo ?gNe ?gLt ?gWt ?gRd ?gIs ?gWr ?gAs ?gW ?lT ?lO ?lM ?lN1 ?lN2 ?lN3 ?lN4 ?lL1 ?lL2 ?lL3 ?lL4 ?lB ?lAl ?lLo ?lNe ?lLt ?lWt ?lRd ?lIs ?lWr ?lAs ?lW ?q20 ?qLt ?qNz ?q19 ?qFg ?qSh ?qDs ?kT ?kO ?kM ?kN1 ?kN2 ?kN3 ?kN4 ?kL1 ?kL2 ?kL3 ?kL4 ?kB ?kAl ?kLo ?kNe ?kLt ?kWt ?kRd ?kIs ?kWr ?kAs ?kW ?BN
    (case gT => first | k_is | k_exc | kernel_rfl)
    (case gO => first | k_is | k_exc | kernel_rfl)
    (case gM => first | k_is | k_exc | kernel_rfl)
    (case gN1 => first | k_is | k_exc | kernel_rfl)
    (case gN2 => first | k_is | k_exc | kernel_rfl)
    (case gN3 => first | k_is | k_exc | kernel_rfl)
    (case gN4 => first | k_is | k_exc | kernel_rfl)
    (case gL1 => first | k_is | k_exc | kernel_rfl)
    (case gL2 => first | k_is | k_exc | kernel_rfl)
    (case gL3 => first | k_is | k_exc | kernel_rfl)
    (case gL4 => first | k_is | k_exc | kernel_rfl)
    (case gB => first | k_is | k_exc | kernel_rfl)
    (case gAl => first | k_is | k_exc | kernel_rfl)
    (case gLo => first | k_is | k_exc | kernel_rfl)
    (case gNe => first | k_is | k_exc | kernel_rfl)
    (case gLt => first | k_is | k_exc | kernel_rfl)
    (case gWt => first | k_is | k_exc | kernel_rfl)
    (case gRd => first | k_is | k_exc | kernel_rfl)
    (case gIs => first | k_is | k_exc | kernel_rfl)
    (case gWr => first | k_is | k_exc | kernel_rfl)
    (case gAs => first | k_is | k_exc | kernel_rfl)
    (case gW => first | k_is | k_exc | kernel_rfl)
    (case lT => first | k_is | k_exc | kernel_rfl)
    (case lO => first | k_is | k_exc | kernel_rfl)
    (case lM => first | k_is | k_exc | kernel_rfl)
    (case lN1 => first | k_is | k_exc | kernel_rfl)
    (case lN2 => first | k_is | k_exc | kernel_rfl)
    (case lN3 => first | k_is | k_exc | kernel_rfl)
    (case lN4 => first | k_is | k_exc | kernel_rfl)
    (case lL1 => first | k_is | k_exc | kernel_rfl)
    (case lL2 => first | k_is | k_exc | kernel_rfl)
    (case lL3 => first | k_is | k_exc | kernel_rfl)
    (case lL4 => first | k_is | k_exc | kernel_rfl)
    (case lB => first | k_is | k_exc | kernel_rfl)
    (case lAl => first | k_is | k_exc | kernel_rfl)
    (case lLo => first | k_is | k_exc | kernel_rfl)
    (case lNe => first | k_is | k_exc | kernel_rfl)
    (case lLt => first | k_is | k_exc | kernel_rfl)
    (case lWt => first | k_is | k_exc | kernel_rfl)
    (case lRd => first | k_is | k_exc | kernel_rfl)
    (case lIs => first | k_is | k_exc | kernel_rfl)
    (case lWr => first | k_is | k_exc | kernel_rfl)
    (case lAs => first | k_is | k_exc | kernel_rfl)
    (case lW => first | k_is | k_exc | kernel_rfl)
    (case q20 => first | k_is | k_exc | kernel_rfl)
    (case qLt => first | k_is | k_exc | kernel_rfl)
    (case qNz => first | k_is | k_exc | kernel_rfl)
    (case q19 => first | k_is | k_exc | kernel_rfl)
    (case qFg => first | k_is | k_exc | kernel_rfl)
    (case qSh => first | k_is | k_exc | kernel_rfl)
    (case qDs => first | k_is | k_exc | kernel_rfl)
    (case kT => first | k_is | k_exc | kernel_rfl)
    (case kO => first | k_is | k_exc | kernel_rfl)
    (case kM => first | k_is | k_exc | kernel_rfl)
    (case kN1 => first | k_is | k_exc | kernel_rfl)
    (case kN2 => first | k_is | k_exc | kernel_rfl)
    (case kN3 => first | k_is | k_exc | kernel_rfl)
    (case kN4 => first | k_is | k_exc | kernel_rfl)
    (case kL1 => first | k_is | k_exc | kernel_rfl)
    (case kL2 => first | k_is | k_exc | kernel_rfl)
    (case kL3 => first | k_is | k_exc | kernel_rfl)
    (case kL4 => first | k_is | k_exc | kernel_rfl)
    (case kB => first | k_is | k_exc | kernel_rfl)
    (case kAl => first | k_is | k_exc | kernel_rfl)
    (case kLo => first | k_is | k_exc | kernel_rfl)
    (case kNe => first | k_is | k_exc | kernel_rfl)
    (case kLt => first | k_is | k_exc | kernel_rfl)
    (case kWt => first | k_is | k_exc | kernel_rfl)
    (case kRd => first | k_is | k_exc | kernel_rfl)
    (case kIs => first | k_is | k_exc | kernel_rfl)
    (case kWr => first | k_is | k_exc | kernel_rfl)
    (case kAs => first | k_is | k_exc | kernel_rfl)
    (case kW => first | k_is | k_exc | kernel_rfl)
    (case BN => first | k_is | k_exc | kernel_rfl)
