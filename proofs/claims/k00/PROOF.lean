import PyProof.Rows.All
import Wide.All
import OpenK.AllK
import Wide.FinOn
import HandS.Base
import HandS.Call
import HandS.List
import HandS.Comp
import HandS.Ends
import HandS.Iter
import HandS.Text
import HandS.Words
import HandS.WordsList
import HandS.Evl
import HandS.Defaults
import HandS.IsInst
import HandS.TupLe
import PyProof.ReprRoads
import PyProof.StrLawsRepr
import HandS.Exc
import HandS.ExcInit
import HandS.ExcField
import HandS.ExcOwn
import HandS.FStr
import HandS.HeadHook2
import HandS.WordsExc
import HandS.Head0
import HandS.Head1
import HandS.Head2
import HandS.HeadEnd
import HandS.HeadHook1
import KE.KStateDown
import Lean
import PySem.Challenge.RW_samescreen_k00_what_is_a_screen
set_option Elab.async false
set_option linter.all false
set_option maxRecDepth 100000
set_option maxHeartbeats 4000000
namespace DD
open PySem PySem.Spec PyProof.Rows L2
open Evl (Ex ex_l ex_t ex_rd)

/-! ### heaps that grow: F what is frozen, H all -/
structure Gr (F H F' H' : Hp) : Prop where
  f : Ex F F'
  h : Ex H H'
  le : Ex F' H'
  own : ∀ q, H q ≠ none → F q = none → F' q = none
theorem Gr.refl {F H : Hp} (le : Ex F H) : Gr F H F H := ⟨Ex.refl F, Ex.refl H, le, fun _ _ h => h⟩
theorem ex_ne {H H' : Hp} (e : Ex H H') {q : Addr} (h : H q ≠ none) : H' q ≠ none := by
  cases k : H q with
  | none => exact absurd k h
  | some o => rw [e q o k]; exact nofun
theorem Gr.trans {F H F1 H1 F2 H2 : Hp} (a : Gr F H F1 H1) (b : Gr F1 H1 F2 H2) : Gr F H F2 H2 :=
  ⟨a.f.trans b.f, a.h.trans b.h, b.le, fun q h1 h2 => b.own q (ex_ne a.h h1) (a.own q h1 h2)⟩
theorem free_of {F H : Hp} (le : Ex F H) {p : Addr} (hp : H p = none) : F p = none := Evl.fresh_back le hp
theorem Gr.new {F H : Hp} (le : Ex F H) {p : Addr} (hp : H p = none) (o : HO) : Gr F H (upd F p o) (upd H p o) := by
  refine ⟨Ex.new (free_of le hp), Ex.new hp, fun a u e => ?_, fun q h1 h2 => ?_⟩
  · by_cases h : a = p
    · subst h; rw [upd_same] at e ⊢; exact e
    · rw [upd_ne h] at e ⊢; exact le a u e
  · have : q ≠ p := fun z => h1 (z ▸ hp)
    rw [upd_ne this]; exact h2
/-- a new object that is not frozen -/
theorem Gr.newH {F H : Hp} (le : Ex F H) {p : Addr} (hp : H p = none) (o : HO) : Gr F H F (upd H p o) :=
  ⟨Ex.refl F, Ex.new hp, le.trans (Ex.new hp), fun _ _ h => h⟩
/-- frozen at last -/
theorem Gr.frz {F H F' H' : Hp} (g : Gr F H F' H') {p : Addr} {o : HO} (h0 : H p = none) (h1 : F' p = none) (h2 : H' p = some o) : Gr F H (upd F' p o) H' := by
  refine ⟨g.f.trans (Ex.new h1), g.h, fun a u e => ?_, fun q a b => ?_⟩
  · by_cases h : a = p
    · subst h; rw [upd_same] at e; rw [← e]; exact h2
    · rw [upd_ne h] at e; exact g.le a u e
  · have : q ≠ p := fun z => a (z ▸ h0)
    rw [upd_ne this]; exact g.own q a b
/-! ### data: as Dp of the hand layer, but lists are tracked or locked, never the module's own -/
mutual
inductive Dq (K : PySem.W.Frag) (H : Hp) : V → PyData → Prop
  | non : Dq K H .non .none
  | bl (b : Bool) : Dq K H (.bl b) (.bool b)
  | int (i : Int) : Dq K H (.int i) (.int i)
  | str (x : Str) : Dq K H (.str x) (.str x)
  | lst {a : Addr} {xs : List V} {ds : List PyData} (h : Rd H a (.lst xs)) (t : DqAll K H xs ds) : Dq K H (.ref a) (.list ds)
  | tup {a : Addr} {xs : List V} {ds : List PyData} (h : SqT K H a xs) (t : DqAll K H xs ds) : Dq K H (.ref a) (.tuple ds)
inductive DqAll (K : PySem.W.Frag) (H : Hp) : List V → List PyData → Prop
  | nil : DqAll K H [] []
  | cons {v : V} {vs : List V} {d : PyData} {ds : List PyData} (h : Dq K H v d) (t : DqAll K H vs ds) : DqAll K H (v :: vs) (d :: ds)
end
section
variable {K : PySem.W.Frag}
mutual
theorem dp_mono {F F' : Hp} (e : Ex F F') : ∀ (d : PyData) (v : V), Dq K F v d → Dq K F' v d
  | .none, _, h => by cases h; exact .non
  | .bool b, _, h => by cases h; exact .bl b
  | .int i, _, h => by cases h; exact .int i
  | .str x, _, h => by cases h; exact .str x
  | .list ds, _, h => by
    cases h with
    | lst hs ha => exact .lst (ex_rd e hs) (dpa_mono e ds _ ha)
  | .tuple ds, _, h => by
    cases h with
    | tup hs ha => exact .tup (ex_t e hs) (dpa_mono e ds _ ha)
  | .dict _, _, h => by cases h
theorem dpa_mono {F F' : Hp} (e : Ex F F') : ∀ (ds : List PyData) (vs : List V), DqAll K F vs ds → DqAll K F' vs ds
  | [], _, h => by cases h; exact .nil
  | d :: ds, _, h => by
    cases h with
    | cons h1 h2 => exact .cons (dp_mono e d _ h1) (dpa_mono e ds _ h2)
end
mutual
theorem dq_dp {F : Hp} : ∀ (d : PyData) (v : V), Dq K F v d → Dp K F v d
  | .none, _, h => by cases h; exact .non
  | .bool b, _, h => by cases h; exact .bl b
  | .int i, _, h => by cases h; exact .int i
  | .str x, _, h => by cases h; exact .str x
  | .list ds, _, h => by
    cases h with
    | lst hs ha => exact .lst (.inl hs) (dqa_dpa ds _ ha)
  | .tuple ds, _, h => by
    cases h with
    | tup hs ha => exact .tup hs (dqa_dpa ds _ ha)
  | .dict _, _, h => by cases h
theorem dqa_dpa {F : Hp} : ∀ (ds : List PyData) (vs : List V), DqAll K F vs ds → DpAll K F vs ds
  | [], _, h => by cases h; exact .nil
  | d :: ds, _, h => by
    cases h with
    | cons h1 h2 => exact .cons (dq_dp d _ h1) (dqa_dpa ds _ h2)
end
theorem dpa_len {F : Hp} : ∀ {vs : List V} {ds : List PyData}, DqAll K F vs ds → vs.length = ds.length
  | _, _, .nil => rfl
  | _, _, .cons _ t => by rw [List.length_cons, List.length_cons, dpa_len t]
theorem dpa_get {F : Hp} : ∀ {vs : List V} {ds : List PyData} {i : Nat} {d : PyData}, DqAll K F vs ds → ds[i]? = some d → ∃ v, vs[i]? = some v ∧ Dq K F v d
  | _, _, _, _, .nil, e => by simp at e
  | _, _, 0, _, .cons h _, e => by simp at e; subst e; exact ⟨_, rfl, h⟩
  | _, _, i + 1, d, .cons _ t, e => by
    obtain ⟨v, h1, h2⟩ := dpa_get (i := i) (d := d) t (by simpa using e)
    exact ⟨v, by simpa using h1, h2⟩
theorem dpa_get' {F : Hp} : ∀ {vs : List V} {ds : List PyData} {i : Nat} {v : V}, DqAll K F vs ds → vs[i]? = some v → ∃ d, ds[i]? = some d ∧ Dq K F v d
  | _, _, _, _, .nil, e => by simp at e
  | _, _, 0, _, .cons h _, e => by simp at e; subst e; exact ⟨_, rfl, h⟩
  | _, _, i + 1, d, .cons _ t, e => by
    obtain ⟨v, h1, h2⟩ := dpa_get' (i := i) (v := d) t (by simpa using e)
    exact ⟨v, by simpa using h1, h2⟩
theorem dpa_app {F : Hp} : ∀ {vs ws : List V} {ds es : List PyData}, DqAll K F vs ds → DqAll K F ws es → DqAll K F (vs ++ ws) (ds ++ es)
  | _, _, _, _, .nil, h => h
  | _, _, _, _, .cons h t, k => .cons h (dpa_app t k)
theorem dpa_take {F : Hp} : ∀ {vs : List V} {ds : List PyData} (n : Nat), DqAll K F vs ds → DqAll K F (vs.take n) (ds.take n)
  | _, _, 0, _ => .nil
  | _, _, _ + 1, .nil => .nil
  | _, _, n + 1, .cons h t => .cons h (dpa_take n t)
theorem dpa_drop {F : Hp} : ∀ {vs : List V} {ds : List PyData} (n : Nat), DqAll K F vs ds → DqAll K F (vs.drop n) (ds.drop n)
  | _, _, 0, h => h
  | _, _, _ + 1, .nil => .nil
  | _, _, n + 1, .cons _ t => dpa_drop n t
theorem dpa_rep {F : Hp} {v : V} {d : PyData} (h : Dq K F v d) : ∀ n : Nat, DqAll K F (List.replicate n v) (List.replicate n d)
  | 0 => .nil
  | n + 1 => .cons h (dpa_rep h n)
theorem dp_ints {F : Hp} : ∀ ns : List Int, DqAll K F (ns.map V.int) (ns.map PyData.int)
  | [] => .nil
  | n :: ns => .cons (.int n) (dp_ints ns)
end
/-! ### slots -/
inductive Sl where
  | no
  | dt (d : PyData)
  | ow (ds : List PyData)
  | raw (v : V)
  | sq (xs : List V)
def SlOk (K : PySem.W.Frag) (H0 F H : Hp) (s : Option V) : Sl → Prop
  | .no => True
  | .dt d => ∃ v, s = some v ∧ Dq K F v d
  | .ow ds => ∃ p vs, s = some (.ref p) ∧ H0 p = none ∧ F p = none ∧ H p = some (.lst vs) ∧ DqAll K F vs ds
  | .raw v => s = some v
  | .sq xs => ∃ a, s = some (.ref a) ∧ SqL K F a xs
/-- F0 H0: at the entry of the def; F H: now -/
structure Env (K : PySem.W.Frag) (F0 H0 F H : Hp) (σ : L2.St) (ρ : List Sl) : Prop where
  gr : Gr F0 H0 F H
  len : σ.length = ρ.length
  ok : ∀ (i : Nat) (x : Sl), ρ[i]? = some x → ∃ s, σ[i]? = some s ∧ SlOk K H0 F H s x
  dis : ∀ (i j : Nat) (p : Addr) (di dj : List PyData), i ≠ j → ρ[i]? = some (.ow di) → ρ[j]? = some (.ow dj) → σ[i]? = some (some (.ref p)) → σ[j]? ≠ some (some (.ref p))
section
variable {K : PySem.W.Frag} {F0 H0 F H F' H' : Hp} {σ : L2.St} {ρ : List Sl}
theorem Env.grow (e : Env K F0 H0 F H σ ρ) (g : Gr F H F' H') : Env K F0 H0 F' H' σ ρ := by
  refine ⟨e.gr.trans g, e.len, fun i x hx => ?_, e.dis⟩
  obtain ⟨s, h1, h2⟩ := e.ok i x hx
  refine ⟨s, h1, ?_⟩
  cases x with
  | no => trivial
  | dt d => obtain ⟨v, a, b⟩ := h2; exact ⟨v, a, dp_mono g.f d v b⟩
  | ow ds =>
    obtain ⟨p, vs, a, b, c, d, k⟩ := h2
    refine ⟨p, vs, a, b, g.own p (by rw [d]; exact nofun) c, g.h p _ d, dpa_mono g.f ds vs k⟩
  | raw v => exact h2
  | sq xs => obtain ⟨p, a, b⟩ := h2; exact ⟨p, a, ex_l g.f b⟩
theorem Env.le (e : Env K F0 H0 F H σ ρ) : Ex F H := e.gr.le
theorem Env.data (e : Env K F0 H0 F H σ ρ) {i : Nat} {d : PyData} (h : ρ[i]? = some (.dt d)) : ∃ v, σ[i]? = some (some v) ∧ Dq K F v d := by
  obtain ⟨s, h1, v, h2, h3⟩ := e.ok i _ h
  exact ⟨v, by rw [h1, h2], h3⟩
theorem Env.set (e : Env K F0 H0 F H σ ρ) (i : Nat) {v : V} {x : Sl} (hn : ∀ ds, x ≠ .ow ds) (hx : SlOk K H0 F H (some v) x) : Env K F0 H0 F H (σ.set i (some v)) (ρ.set i x) := by
  refine ⟨e.gr, by rw [List.length_set, List.length_set, e.len], fun j y hy => ?_, fun j k p dj dk hjk hj hk aj ak => ?_⟩
  · by_cases hij : i = j
    · subst hij
      have hl : i < ρ.length := by
        have := (List.getElem?_eq_some_iff.mp hy).1
        rwa [List.length_set] at this
      rw [List.getElem?_set_self hl] at hy
      cases hy
      exact ⟨_, List.getElem?_set_self (by rw [e.len]; exact hl), hx⟩
    · rw [List.getElem?_set_ne hij] at hy ⊢
      exact e.ok j y hy
  · by_cases hij : i = j
    · subst hij
      have hl : i < ρ.length := by
        have := (List.getElem?_eq_some_iff.mp hj).1
        rwa [List.length_set] at this
      rw [List.getElem?_set_self hl] at hj
      cases hj
      exact hn _ rfl
    · by_cases hik : i = k
      · subst hik
        have hl : i < ρ.length := by
          have := (List.getElem?_eq_some_iff.mp hk).1
          rwa [List.length_set] at this
        rw [List.getElem?_set_self hl] at hk
        cases hk
        exact hn _ rfl
      · rw [List.getElem?_set_ne hij] at hj aj
        rw [List.getElem?_set_ne hik] at hk ak
        exact e.dis j k p dj dk hjk hj hk aj ak
theorem Env.setD (e : Env K F0 H0 F H σ ρ) (i : Nat) {v : V} {d : PyData} (h : Dq K F v d) : Env K F0 H0 F H (σ.set i (some v)) (ρ.set i (.dt d)) :=
  e.set i (fun _ => nofun) ⟨v, rfl, h⟩
/-- a new list that the frame owns -/
theorem Env.setO (e : Env K F0 H0 F H σ ρ) (i : Nat) {p : Addr} {vs : List V} {ds : List PyData} (g : Gr F H F' H') (h0 : H p = none) (h1 : F' p = none) (h2 : H' p = some (.lst vs)) (h3 : DqAll K F' vs ds) :
    Env K F0 H0 F' H' (σ.set i (some (.ref p))) (ρ.set i (.ow ds)) := by
  have e' := e.grow g
  have hp0 : H0 p = none := Evl.fresh_back e.gr.h h0
  have npre : ∀ (j : Nat) (dj : List PyData), ρ[j]? = some (.ow dj) → σ[j]? ≠ some (some (.ref p)) := fun j dj hj hs => by
    obtain ⟨s, a, q, us, b, _, _, c, _⟩ := e.ok j _ hj
    rw [a] at hs
    cases hs
    cases b
    rw [h0] at c
    cases c
  refine ⟨e'.gr, by rw [List.length_set, List.length_set, e.len], fun j y hy => ?_, fun j k q dj dk hjk hj hk aj ak => ?_⟩
  · by_cases hij : i = j
    · subst hij
      have hl : i < ρ.length := by
        have := (List.getElem?_eq_some_iff.mp hy).1
        rwa [List.length_set] at this
      rw [List.getElem?_set_self hl] at hy
      cases hy
      exact ⟨_, List.getElem?_set_self (by rw [e.len]; exact hl), p, vs, rfl, hp0, h1, h2, h3⟩
    · rw [List.getElem?_set_ne hij] at hy ⊢
      exact e'.ok j y hy
  · by_cases hij : i = j
    · subst hij
      have hl : i < σ.length := by
        have := (List.getElem?_eq_some_iff.mp aj).1
        rwa [List.length_set] at this
      rw [List.getElem?_set_self hl] at aj
      cases aj
      rw [List.getElem?_set_ne hjk] at hk ak
      exact npre k dk hk ak
    · by_cases hik : i = k
      · subst hik
        have hl : i < σ.length := by
          have := (List.getElem?_eq_some_iff.mp ak).1
          rwa [List.length_set] at this
        rw [List.getElem?_set_self hl] at ak
        cases ak
        rw [List.getElem?_set_ne hij] at hj aj
        exact npre j dj hj aj
      · rw [List.getElem?_set_ne hij] at hj aj
        rw [List.getElem?_set_ne hik] at hk ak
        exact e.dis j k q dj dk hjk hj hk aj ak
/-- what an own list holds is told anew -/
theorem Env.upO (e : Env K F0 H0 F H σ ρ) {i : Nat} {p : Addr} {ds es : List PyData} {ws : List V} (hi : ρ[i]? = some (.ow ds)) (hs : σ[i]? = some (some (.ref p))) (h3 : DqAll K F ws es) :
    Env K F0 H0 F (upd H p (.lst ws)) σ (ρ.set i (.ow es)) := by
  obtain ⟨s, a, q, vs, b, p0, pF, pH, _⟩ := e.ok i _ hi
  rw [a] at hs
  cases hs
  cases b
  have hl : i < ρ.length := (List.getElem?_eq_some_iff.mp hi).1
  refine ⟨⟨e.gr.f, e.gr.h.mut p0, e.gr.le.mut pF, e.gr.own⟩, by rw [List.length_set, e.len], fun j y hy => ?_, fun j k q dj dk hjk hj hk aj ak => ?_⟩
  · by_cases hij : i = j
    · subst hij
      rw [List.getElem?_set_self hl] at hy
      cases hy
      exact ⟨_, a, p, ws, rfl, p0, pF, upd_same, h3⟩
    · rw [List.getElem?_set_ne hij] at hy
      obtain ⟨s, h1, h2⟩ := e.ok j y hy
      refine ⟨s, h1, ?_⟩
      cases y with
      | no => trivial
      | dt d => exact h2
      | raw v => exact h2
      | sq xs => exact h2
      | ow dj =>
        obtain ⟨r, us, c1, c2, c3, c4, c5⟩ := h2
        have hr : r ≠ p := fun z => by
          subst z
          subst c1
          exact e.dis i j r ds dj hij hi hy a h1
        exact ⟨r, us, c1, c2, c3, by rw [upd_ne hr]; exact c4, c5⟩
  · have old : ∀ {k : Nat} {dk : List PyData}, (ρ.set i (.ow es))[k]? = some (.ow dk) → ∃ dk', ρ[k]? = some (.ow dk') := fun {k dk} h => by
      by_cases hik : i = k
      · subst hik; exact ⟨_, hi⟩
      · rw [List.getElem?_set_ne hik] at h; exact ⟨_, h⟩
    obtain ⟨_, hj'⟩ := old hj
    obtain ⟨_, hk'⟩ := old hk
    exact e.dis j k q _ _ hjk hj' hk' aj ak
/-- an own list is frozen -/
theorem Env.frz (e : Env K F0 H0 F H σ ρ) {i : Nat} {ds : List PyData} (hi : ρ[i]? = some (.ow ds)) : ∃ F', Ex F F' ∧ Env K F0 H0 F' H σ (ρ.set i (.dt (.list ds))) := by
  obtain ⟨s, a, p, vs, b, p0, pF, pH, pd⟩ := e.ok i _ hi
  have hl : i < ρ.length := (List.getElem?_eq_some_iff.mp hi).1
  subst b
  refine ⟨upd F p (.lst vs), Ex.new pF, e.gr.frz p0 pF pH, by rw [List.length_set, e.len], fun j y hy => ?_, fun j k q dj dk hjk hj hk aj ak => ?_⟩
  · by_cases hij : i = j
    · subst hij
      rw [List.getElem?_set_self hl] at hy
      cases hy
      exact ⟨_, a, _, rfl, .lst (Rd.of upd_same) (dpa_mono (Ex.new pF) ds vs pd)⟩
    · rw [List.getElem?_set_ne hij] at hy
      obtain ⟨s, h1, h2⟩ := e.ok j y hy
      refine ⟨s, h1, ?_⟩
      cases y with
      | no => trivial
      | dt d => obtain ⟨v, x, y⟩ := h2; exact ⟨v, x, dp_mono (Ex.new pF) d v y⟩
      | raw v => exact h2
      | sq xs => obtain ⟨q, x, y⟩ := h2; exact ⟨q, x, ex_l (Ex.new pF) y⟩
      | ow dj =>
        obtain ⟨r, us, c1, c2, c3, c4, c5⟩ := h2
        have hr : r ≠ p := fun z => by
          subst z
          subst c1
          exact e.dis i j r ds dj hij hi hy a h1
        exact ⟨r, us, c1, c2, by rw [upd_ne hr]; exact c3, c4, dpa_mono (Ex.new pF) dj us c5⟩
  · have old : ∀ {k : Nat} {dk : List PyData}, (ρ.set i (.dt (.list ds)))[k]? = some (.ow dk) → ∃ dk', ρ[k]? = some (.ow dk') := fun {k dk} h => by
      by_cases hik : i = k
      · subst hik
        rw [List.getElem?_set_self hl] at h
        cases h
      · rw [List.getElem?_set_ne hik] at h; exact ⟨_, h⟩
    obtain ⟨_, hj'⟩ := old hj
    obtain ⟨_, hk'⟩ := old hk
    exact e.dis j k q _ _ hjk hj' hk' aj ak
/-- slots forgotten -/
def wipeS (ρ : List Sl) : List Nat → List Sl
  | [] => ρ
  | v :: vs => (wipeS ρ vs).set v .no
theorem Env.setNo (e : Env K F0 H0 F H σ ρ) (i : Nat) (s : Option V) : Env K F0 H0 F H (σ.set i s) (ρ.set i .no) := by
  refine ⟨e.gr, by rw [List.length_set, List.length_set, e.len], fun j y hy => ?_, fun j k p dj dk hjk hj hk aj ak => ?_⟩
  · by_cases hij : i = j
    · subst hij
      have hl : i < ρ.length := by
        have := (List.getElem?_eq_some_iff.mp hy).1
        rwa [List.length_set] at this
      rw [List.getElem?_set_self hl] at hy
      cases hy
      exact ⟨_, List.getElem?_set_self (by rw [e.len]; exact hl), trivial⟩
    · rw [List.getElem?_set_ne hij] at hy ⊢
      exact e.ok j y hy
  · by_cases hij : i = j
    · subst hij
      have hl : i < ρ.length := by
        have := (List.getElem?_eq_some_iff.mp hj).1
        rwa [List.length_set] at this
      rw [List.getElem?_set_self hl] at hj
      cases hj
    · by_cases hik : i = k
      · subst hik
        have hl : i < ρ.length := by
          have := (List.getElem?_eq_some_iff.mp hk).1
          rwa [List.length_set] at this
        rw [List.getElem?_set_self hl] at hk
        cases hk
      · rw [List.getElem?_set_ne hij] at hj aj
        rw [List.getElem?_set_ne hik] at hk ak
        exact e.dis j k p dj dk hjk hj hk aj ak
theorem Env.wipe (e : Env K F0 H0 F H σ ρ) : ∀ vs : List Nat, Env K F0 H0 F H (L2.wipe σ vs) (wipeS ρ vs)
  | [] => e
  | v :: vs => (Env.wipe e vs).setNo v none
end
end DD

set_option Elab.async false
set_option linter.all false
set_option maxRecDepth 100000
set_option maxHeartbeats 4000000
namespace DD
open PySem PySem.Spec PyProof.Rows L2
open Evl (Ex ex_l ex_t ex_rd)
/-! ### what an expression gives, as data -/
section
variable (K : PySem.W.Frag)
def XD (te : TE) (ρ : List Sl) (d : PyData) : Prop := ∀ F0 H0 F H σ, Env K F0 H0 F H σ ρ → ∀ Q : VK, (∀ v F' H', Gr F H F' H' → Dq K F' v d → Q v H') → te σ H Q
/-- a new list that none has but us -/
def XO (te : TE) (ρ : List Sl) (ds : List PyData) : Prop := ∀ F0 H0 F H σ, Env K F0 H0 F H σ ρ → ∀ Q : VK,
  (∀ p vs F' H', Gr F H F' H' → H p = none → F' p = none → H' p = some (.lst vs) → DqAll K F' vs ds → Q (.ref p) H') → te σ H Q
def XT (tt : TT) (ρ : List Sl) (b : Bool) : Prop := ∀ F0 H0 F H σ, Env K F0 H0 F H σ ρ → ∀ Q : Bool → Hp → Prop, (∀ F' H', Gr F H F' H' → Q b H') → tt σ H Q
def XA (ta : TA) (ρ : List Sl) (ds : List PyData) : Prop := ∀ F0 H0 F H σ, Env K F0 H0 F H σ ρ → ∀ Q : List V → Hp → Prop, (∀ vs F' H', Gr F H F' H' → DqAll K F' vs ds → Q vs H') → ta σ H Q
def XP (to : TO) (ρ : List Sl) (o : Option Int) : Prop := ∀ F0 H0 F H σ, Env K F0 H0 F H σ ρ → ∀ Q : Option Int → Hp → Prop, (∀ F' H', Gr F H F' H' → Q o H') → to σ H Q
/-- a target: what it binds; vs: the slots that it may touch -/
def XG (g : TG) (d : PyData) (ρ ρ' : List Sl) (vs : List Nat) : Prop := ∀ F0 H0 F H σ v, Env K F0 H0 F H σ ρ → Dq K F v d → ∀ Q : L2.St → Hp → Prop,
  (∀ σ', Env K F0 H0 F H σ' ρ' → (σ'.length = σ.length ∧ ∀ k, k ∉ vs → σ'[k]? = σ[k]?) → Q σ' H) → g v σ H Q
/-- an iterator that gives n things -/
def ItD (J : It) (F : Hp) (n : Nat) (d : Nat → PyData) : Prop :=
  (∀ i H, Ex F H → i < n → J.go i H) ∧ (∀ i H, Ex F H → n ≤ i → J.stop i H) ∧ ∀ i F1 H x H', Ex F F1 → Ex F1 H → i < n → J.yld i H x H' → ∃ F', Gr F1 H F' H' ∧ Dq K F' x (d i)
def XI (wi : TI) (ρ : List Sl) (n : Nat) (d : Nat → PyData) : Prop := ∀ F0 H0 F H σ, Env K F0 H0 F H σ ρ → ∀ R : It → Hp → Prop, (∀ J F' H', Gr F H F' H' → ItD K J F' n d → R J H') → wi σ H R
/-- a statement: B what is known of the heaps at the entry, N what follows it, R what it returns -/
def SD (B : Hp → Hp → Prop) (ts : TS) (ρ : List Sl) (N : List Sl → Prop) (R : PyData → Prop) : Prop := ∀ F0 H0 F H σ (D : Ends), B F0 H0 → Env K F0 H0 F H σ ρ →
  (∀ F' H' σ' ρ', N ρ' → Ex F F' → Env K F0 H0 F' H' σ' ρ' → D.nx σ' H') → (∀ F' H' v d, R d → Gr F0 H0 F' H' → Dq K F' v d → D.rt v H') → ts D σ H
end
section
variable {K : PySem.W.Frag} {ρ ρ' : List Sl} {ta tb te : TE} {t u : TT} {d e : PyData} {ds es : List PyData}
theorem XO.xd (h : XO K te ρ ds) : XD K te ρ (.list ds) := fun F0 H0 F H σ E Q q => h F0 H0 F H σ E Q fun p vs F' H' g hp h1 h2 h3 =>
  q _ (upd F' p (.lst vs)) H' (g.frz hp h1 h2) (.lst (Rd.of upd_same) (dpa_mono (Ex.new h1) _ _ h3))
theorem XD.is (h : XD K te ρ d) (q : d = e) : XD K te ρ e := q ▸ h
theorem XT.is {b c : Bool} (h : XT K t ρ b) (q : b = c) : XT K t ρ c := q ▸ h
theorem XO.is (h : XO K te ρ ds) (q : ds = es) : XO K te ρ es := q ▸ h
theorem xd_var {i : Nat} (h : ρ[i]? = some (.dt d)) : XD K (tVar i) ρ d := fun F0 H0 F H σ E Q q => by
  obtain ⟨v, h1, h2⟩ := E.data h
  exact ⟨v, h1, q v F H (Gr.refl E.le) h2⟩
theorem xd_int {i : Int} : XD K (tC (.int i)) ρ (.int i) := fun F0 H0 F H σ E Q q => q _ F H (Gr.refl E.le) (.int i)
theorem xd_str {x : Str} : XD K (tC (.str x)) ρ (.str x) := fun F0 H0 F H σ E Q q => q _ F H (Gr.refl E.le) (.str x)
theorem xd_bl {b : Bool} : XD K (tC (.bl b)) ρ (.bool b) := fun F0 H0 F H σ E Q q => q _ F H (Gr.refl E.le) (.bl b)
theorem xd_non : XD K (tC .non) ρ .none := fun F0 H0 F H σ E Q q => q _ F H (Gr.refl E.le) .non
/-- a thing of the module -/
theorem xd_mod {v : V} (h : ∀ F, Dq K F v d) : XD K (tC v) ρ d := fun F0 H0 F H σ E Q q => q _ F H (Gr.refl E.le) (h F)
/-- two operands, an operation on their data -/
def RD2 (K : PySem.W.Frag) (r : R2) (d e f : PyData) : Prop := ∀ F H x y, Ex F H → Dq K F x d → Dq K F y e → ∀ Q : VK, (∀ v F' H', Gr F H F' H' → Dq K F' v f → Q v H') → r x y H Q
theorem xd_op {r : R2} {f : PyData} (ha : XD K ta ρ d) (hb : XD K tb ρ e) (hr : RD2 K r d e f) : XD K (tOp r ta tb) ρ f := fun F0 H0 F H σ E Q q =>
  ha F0 H0 F H σ E _ fun x F1 H1 g1 d1 => hb F0 H0 F1 H1 σ (E.grow g1) _ fun y F2 H2 g2 d2 =>
    hr F2 H2 x y g2.le (dp_mono g2.f _ _ d1) d2 Q fun v F3 H3 g3 d3 => q v F3 H3 ((g1.trans g2).trans g3) d3
theorem xd_un {r : V → Hp → VK → Prop} {f : PyData} (ha : XD K ta ρ d) (hr : ∀ F H x, Ex F H → Dq K F x d → ∀ Q : VK, (∀ v F' H', Gr F H F' H' → Dq K F' v f → Q v H') → r x H Q) : XD K (tUn r ta) ρ f := fun F0 H0 F H σ E Q q =>
  ha F0 H0 F H σ E _ fun x F1 H1 g1 d1 => hr F1 H1 x g1.le d1 Q fun v F3 H3 g3 d3 => q v F3 H3 (g1.trans g3) d3
theorem dp_int {F : Hp} {x : V} {i : Int} (h : Dq K F x (.int i)) : x = .int i := by cases h; rfl
theorem dp_str {F : Hp} {x : V} {i : Str} (h : Dq K F x (.str i)) : x = .str i := by cases h; rfl
theorem dp_bl {F : Hp} {x : V} {i : Bool} (h : Dq K F x (.bool i)) : x = .bl i := by cases h; rfl
theorem dp_non {F : Hp} {x : V} (h : Dq K F x .none) : x = .non := by cases h; rfl
theorem dp_lst {F : Hp} {x : V} (h : Dq K F x (.list ds)) : ∃ a xs, x = .ref a ∧ SqL K F a xs ∧ DqAll K F xs ds := by
  cases h with
  | lst a b => exact ⟨_, _, rfl, .inl a, b⟩
theorem dp_lstR {F : Hp} {x : V} (h : Dq K F x (.list ds)) : ∃ a xs, x = .ref a ∧ Rd F a (.lst xs) ∧ DqAll K F xs ds := by
  cases h with
  | lst a b => exact ⟨_, _, rfl, a, b⟩
theorem dp_tup {F : Hp} {x : V} (h : Dq K F x (.tuple ds)) : ∃ a xs, x = .ref a ∧ SqT K F a xs ∧ DqAll K F xs ds := by
  cases h with
  | tup a b => exact ⟨_, _, rfl, a, b⟩
/-! ints -/
theorem rd_I0 {g : Int → Int → V} {i j : Int} {f : PyData} (hf : ∀ F, Dq K F (g i j) f) : RD2 K (rI0 g) (.int i) (.int j) f := fun F H x y le hx hy Q q =>
  ⟨i, j, dp_int hx, dp_int hy, q _ F H (Gr.refl le) (hf F)⟩
theorem rd_I {C : Int → Int → Prop} {g : Int → Int → V} {i j : Int} {f : PyData} (hc : C i j) (hf : ∀ F, Dq K F (g i j) f) : RD2 K (rI C g) (.int i) (.int j) f := fun F H x y le hx hy Q q =>
  ⟨i, j, dp_int hx, dp_int hy, hc, q _ F H (Gr.refl le) (hf F)⟩
theorem xd_I0 {g : Int → Int → Int} {i j : Int} (ha : XD K ta ρ (.int i)) (hb : XD K tb ρ (.int j)) : XD K (tOp (rI0 fun i j => .int (g i j)) ta tb) ρ (.int (g i j)) := xd_op ha hb (rd_I0 fun _ => .int _)
theorem xd_B0 {g : Int → Int → Bool} {i j : Int} (ha : XD K ta ρ (.int i)) (hb : XD K tb ρ (.int j)) : XD K (tOp (rI0 fun i j => .bl (g i j)) ta tb) ρ (.bool (g i j)) := xd_op ha hb (rd_I0 fun _ => .bl _)
theorem xd_I {C : Int → Int → Prop} {g : Int → Int → Int} {i j : Int} (ha : XD K ta ρ (.int i)) (hb : XD K tb ρ (.int j)) (hc : C i j) : XD K (tOp (rI C fun i j => .int (g i j)) ta tb) ρ (.int (g i j)) := xd_op ha hb (rd_I hc fun _ => .int _)
theorem xd_neg {g : Int → Int} {i : Int} (ha : XD K ta ρ (.int i)) : XD K (tUn (rU fun i => .int (g i)) ta) ρ (.int (g i)) := xd_un ha fun F H x le hx Q q => ⟨i, dp_int hx, q _ F H (Gr.refl le) (.int _)⟩
/-! == of scalars -/
def sv : PyData → Option V
  | .none => some .non
  | .bool b => some (.bl b)
  | .int i => some (.int i)
  | .str x => some (.str x)
  | _ => none
theorem dp_sv {F : Hp} {x : V} {v : V} (h : Dq K F x d) (hs : sv d = some v) : x = v := by
  cases h <;> cases hs <;> rfl
theorem xd_eq {x y : V} (ha : XD K ta ρ d) (hb : XD K tb ρ e) (hx : sv d = some x) (hy : sv e = some y) (hs : scal x y = true) : XD K (tOp rEq ta tb) ρ (.bool (decide (x = y))) :=
  xd_op ha hb fun F H a b le h1 h2 Q q => by
    rw [dp_sv h1 hx, dp_sv h2 hy]
    exact ⟨hs, q _ F H (Gr.refl le) (.bl _)⟩
theorem xd_ne {x y : V} (ha : XD K ta ρ d) (hb : XD K tb ρ e) (hx : sv d = some x) (hy : sv e = some y) (hs : scal x y = true) : XD K (tOp rNe ta tb) ρ (.bool (!decide (x = y))) :=
  xd_op ha hb fun F H a b le h1 h2 Q q => by
    rw [dp_sv h1 hx, dp_sv h2 hy]
    exact ⟨hs, q _ F H (Gr.refl le) (.bl _)⟩
theorem xd_eqI {i j : Int} (ha : XD K ta ρ (.int i)) (hb : XD K tb ρ (.int j)) : XD K (tOp rEq ta tb) ρ (.bool (decide (i = j))) :=
  (xd_eq ha hb rfl rfl rfl).is (by rw [show decide (V.int i = V.int j) = decide (i = j) from by simp])
theorem xd_neI {i j : Int} (ha : XD K ta ρ (.int i)) (hb : XD K tb ρ (.int j)) : XD K (tOp rNe ta tb) ρ (.bool (!decide (i = j))) :=
  (xd_ne ha hb rfl rfl rfl).is (by rw [show decide (V.int i = V.int j) = decide (i = j) from by simp])
theorem xd_eqS {i j : Str} (ha : XD K ta ρ (.str i)) (hb : XD K tb ρ (.str j)) : XD K (tOp rEq ta tb) ρ (.bool (decide (i = j))) :=
  (xd_eq ha hb rfl rfl rfl).is (by rw [show decide (V.str i = V.str j) = decide (i = j) from by simp])
theorem xd_neS {i j : Str} (ha : XD K ta ρ (.str i)) (hb : XD K tb ρ (.str j)) : XD K (tOp rNe ta tb) ρ (.bool (!decide (i = j))) :=
  (xd_ne ha hb rfl rfl rfl).is (by rw [show decide (V.str i = V.str j) = decide (i = j) from by simp])
/-! == of data -/
theorem xd_eqD (ha : XD K ta ρ d) (hb : XD K tb ρ e) (h1 : SeqAt.shaped d = true) (h2 : SeqAt.shaped e = true) : XD K (tOp (rEqD K) ta tb) ρ (.bool (PyData.eqv d e)) :=
  xd_op ha hb fun F H x y le hx hy Q q => ⟨d, e, dq_dp _ _ (dp_mono le _ _ hx), dq_dp _ _ (dp_mono le _ _ hy), h1, h2, q _ F H (Gr.refl le) (.bl _)⟩
theorem xd_neD (ha : XD K ta ρ d) (hb : XD K tb ρ e) (h1 : SeqAt.shaped d = true) (h2 : SeqAt.shaped e = true) : XD K (tOp (rNeD K) ta tb) ρ (.bool (!PyData.eqv d e)) :=
  xd_op ha hb fun F H x y le hx hy Q q => ⟨d, e, dq_dp _ _ (dp_mono le _ _ hx), dq_dp _ _ (dp_mono le _ _ hy), h1, h2, q _ F H (Gr.refl le) (.bl _)⟩
/-! is None -/
def isN : PyData → Bool
  | .none => true
  | _ => false
theorem xd_isN (ha : XD K ta ρ d) : XD K (tIsN ta) ρ (.bool (isN d)) := fun F0 H0 F H σ E Q q => ha F0 H0 F H σ E _ fun x F1 H1 g1 d1 => by
  have e : decide (x = V.non) = isN d := by cases d1 <;> rfl
  show Q (.bl (decide (x = V.non))) H1
  rw [e]
  exact q _ F1 H1 g1 (.bl _)
theorem xd_notN (ha : XD K ta ρ d) : XD K (tNotN ta) ρ (.bool (!isN d)) := fun F0 H0 F H σ E Q q => ha F0 H0 F H σ E _ fun x F1 H1 g1 d1 => by
  have e : decide (x = V.non) = isN d := by cases d1 <;> rfl
  show Q (.bl (!decide (x = V.non))) H1
  rw [e]
  exact q _ F1 H1 g1 (.bl _)
/-! tests -/
theorem xt_test {b : Bool} (h : XD K te ρ (.bool b)) : XT K (tTest te) ρ b := fun F0 H0 F H σ E Q q => h F0 H0 F H σ E _ fun v F1 H1 g d => ⟨b, dp_bl d, q F1 H1 g⟩
theorem xt_B {b : Bool} (h : XD K te ρ (.bool b)) : XT K (tB te) ρ b := fun F0 H0 F H σ E Q q => h F0 H0 F H σ E _ fun v F1 H1 g d => ⟨b, dp_bl d, q F1 H1 g⟩
theorem xt_and {a b : Bool} (h1 : XT K t ρ a) (h2 : a = true → XT K u ρ b) : XT K (tAnd t u) ρ (a && b) := fun F0 H0 F H σ E Q q => h1 F0 H0 F H σ E _ fun F1 H1 g => by
  cases a with
  | true => exact h2 rfl F0 H0 F1 H1 σ (E.grow g) Q fun F2 H2 g2 => q F2 H2 (g.trans g2)
  | false => exact q F1 H1 g
theorem xt_or {a b : Bool} (h1 : XT K t ρ a) (h2 : a = false → XT K u ρ b) : XT K (tOr t u) ρ (a || b) := fun F0 H0 F H σ E Q q => h1 F0 H0 F H σ E _ fun F1 H1 g => by
  cases a with
  | true => exact q F1 H1 g
  | false => exact h2 rfl F0 H0 F1 H1 σ (E.grow g) Q fun F2 H2 g2 => q F2 H2 (g.trans g2)
theorem xt_not {a : Bool} (h1 : XT K t ρ a) : XT K (tNot t) ρ (!a) := fun F0 H0 F H σ E Q q => h1 F0 H0 F H σ E _ fun F1 H1 g => q F1 H1 g
theorem xd_and {a b : Bool} (h1 : XD K ta ρ (.bool a)) (h2 : a = true → XD K tb ρ (.bool b)) : XD K (tAndV ta tb) ρ (.bool (a && b)) := fun F0 H0 F H σ E Q q => h1 F0 H0 F H σ E _ fun v F1 H1 g d => ⟨a, dp_bl d, by
  cases a with
  | true => exact h2 rfl F0 H0 F1 H1 σ (E.grow g) Q fun v F2 H2 g2 => q v F2 H2 (g.trans g2)
  | false => exact q _ F1 H1 g (.bl false)⟩
theorem xd_or {a b : Bool} (h1 : XD K ta ρ (.bool a)) (h2 : a = false → XD K tb ρ (.bool b)) : XD K (tOrV ta tb) ρ (.bool (a || b)) := fun F0 H0 F H σ E Q q => h1 F0 H0 F H σ E _ fun v F1 H1 g d => ⟨a, dp_bl d, by
  cases a with
  | true => exact q _ F1 H1 g (.bl true)
  | false => exact h2 rfl F0 H0 F1 H1 σ (E.grow g) Q fun v F2 H2 g2 => q v F2 H2 (g.trans g2)⟩
theorem xd_not {a : Bool} (h1 : XD K ta ρ (.bool a)) : XD K (tNotV ta) ρ (.bool (!a)) := fun F0 H0 F H σ E Q q => h1 F0 H0 F H σ E _ fun v F1 H1 g d => ⟨a, dp_bl d, q _ F1 H1 g (.bl _)⟩
theorem xd_if {b : Bool} {f : PyData} (h : XT K t ρ b) (h1 : b = true → XD K ta ρ d) (h2 : b = false → XD K tb ρ e) (hf : (if b = true then d else e) = f) : XD K (tIf t ta tb) ρ f := fun F0 H0 F H σ E Q q => h F0 H0 F H σ E _ fun F1 H1 g => by
  cases b with
  | true => exact h1 rfl F0 H0 F1 H1 σ (E.grow g) Q fun v F2 H2 g2 d2 => q v F2 H2 (g.trans g2) (hf ▸ d2)
  | false => exact h2 rfl F0 H0 F1 H1 σ (E.grow g) Q fun v F2 H2 g2 d2 => q v F2 H2 (g.trans g2) (hf ▸ d2)
/-- a op1 b op2 c of ints -/
theorem xd_chain {tc : TE} {p q' : Int → Int → Bool} {i j k : Int} (ha : XD K ta ρ (.int i)) (hb : XD K tb ρ (.int j)) (hc : p i j = true → XD K tc ρ (.int k)) :
    XD K (tChain (rI0 fun i j => .bl (p i j)) (rI0 fun i j => .bl (q' i j)) ta tb tc) ρ (.bool (p i j && q' j k)) := fun F0 H0 F H σ E Q q =>
  ha F0 H0 F H σ E _ fun x F1 H1 g1 d1 => hb F0 H0 F1 H1 σ (E.grow g1) _ fun y F2 H2 g2 d2 => ⟨i, j, dp_int d1, dp_int d2, p i j, rfl, by
    cases hp : p i j with
    | true => exact hc hp F0 H0 F2 H2 σ ((E.grow g1).grow g2) _ fun z F3 H3 g3 d3 => ⟨j, k, dp_int d2, dp_int d3, q _ F3 H3 ((g1.trans g2).trans g3) (by rw [hp, Bool.true_and]; exact .bl _)⟩
    | false => exact q _ F2 H2 (g1.trans g2) (by rw [hp, Bool.false_and]; exact .bl _)⟩
/-! argument lists, displays -/
theorem xa_nil : XA K tNil ρ [] := fun F0 H0 F H σ E Q q => q [] F H (Gr.refl E.le) .nil
theorem xa_cons {tr : TA} (h : XD K ta ρ d) (hr : XA K tr ρ ds) : XA K (tCons ta tr) ρ (d :: ds) := fun F0 H0 F H σ E Q q =>
  h F0 H0 F H σ E _ fun v F1 H1 g1 d1 => hr F0 H0 F1 H1 σ (E.grow g1) _ fun vs F2 H2 g2 d2 => q _ F2 H2 (g1.trans g2) (.cons (dp_mono g2.f _ _ d1) d2)
theorem xd_tup {tr : TA} (h : XA K tr ρ ds) (hl : ds.length ≤ 100000) : XD K (tTup tr) ρ (.tuple ds) := fun F0 H0 F H σ E Q q =>
  h F0 H0 F H σ E _ fun vs F1 H1 g1 d1 => ⟨by rw [dpa_len d1]; exact Evl.sz_of hl, fun p hp => by
    have g2 := Gr.new g1.le hp (.tup vs)
    exact q _ _ _ (g1.trans g2) (.tup (SqT.of upd_same) (dpa_mono g2.f _ _ d1))⟩
theorem xo_lst {tr : TA} (h : XA K tr ρ ds) (hl : ds.length ≤ 100000) : XO K (tLst tr) ρ ds := fun F0 H0 F H σ E Q q =>
  h F0 H0 F H σ E _ fun vs F1 H1 g1 d1 => ⟨by rw [dpa_len d1]; exact Evl.sz_of hl, fun p hp =>
    q p vs F1 _ (g1.trans (Gr.newH g1.le hp (.lst vs))) (Evl.fresh_back g1.h hp) (free_of g1.le hp) upd_same d1⟩
/-! calls of builtins by their values -/
def RDC (K : PySem.W.Frag) (r : List V → Hp → VK → Prop) (ds : List PyData) (f : PyData) : Prop := ∀ F H vs, Ex F H → DqAll K F vs ds → ∀ Q : VK, (∀ v F' H', Gr F H F' H' → Dq K F' v f → Q v H') → r vs H Q
theorem xd_cb {r : List V → Hp → VK → Prop} {tr : TA} {f : PyData} (h : XA K tr ρ ds) (hr : RDC K r ds f) : XD K (tCB r tr) ρ f := fun F0 H0 F H σ E Q q =>
  h F0 H0 F H σ E _ fun vs F1 H1 g1 d1 => hr F1 H1 vs g1.le d1 Q fun v F2 H2 g2 d2 => q v F2 H2 (g1.trans g2) d2
theorem dpa1 {F : Hp} {vs : List V} (h : DqAll K F vs [d]) : ∃ v, vs = [v] ∧ Dq K F v d := by
  cases h with
  | cons a b => cases b; exact ⟨_, rfl, a⟩
theorem dpa2 {F : Hp} {vs : List V} (h : DqAll K F vs [d, e]) : ∃ v w, vs = [v, w] ∧ Dq K F v d ∧ Dq K F w e := by
  cases h with
  | cons a b => obtain ⟨w, rfl, c⟩ := dpa1 b; exact ⟨_, _, rfl, a, c⟩
theorem rc_abs {i : Int} : RDC K (fun xs H Q => ∃ i, xs = [.int i] ∧ Q (.int (if i < 0 then -i else i)) H) [.int i] (.int (if i < 0 then -i else i)) := fun F H vs le h Q q => by
  obtain ⟨v, rfl, a⟩ := dpa1 h
  exact ⟨i, by rw [dp_int a], q _ F H (Gr.refl le) (.int _)⟩
theorem rc_int {i : Int} {Z : List V → Hp → VK → Prop} : RDC K (fun xs H Q => (∃ i, xs = [.int i] ∧ Q (.int i) H) ∨ Z xs H Q) [.int i] (.int i) := fun F H vs le h Q q => by
  obtain ⟨v, rfl, a⟩ := dpa1 h
  exact .inl ⟨i, by rw [dp_int a], q _ F H (Gr.refl le) (.int _)⟩
theorem rc_intB {b : Bool} {Z : List V → Hp → VK → Prop} : RDC K (fun xs H Q => Z xs H Q ∨ ∃ k, xs = [.bl k] ∧ Q (.int (if k then 1 else 0)) H) [.bool b] (.int (if b then 1 else 0)) := fun F H vs le h Q q => by
  obtain ⟨v, rfl, a⟩ := dpa1 h
  exact .inr ⟨b, by rw [dp_bl a], q _ F H (Gr.refl le) (.int _)⟩
theorem rc_min {i j : Int} : RDC K (fun xs H Q => ∃ i j, xs = [.int i, .int j] ∧ Q (.int (if j < i then j else i)) H) [.int i, .int j] (.int (min i j)) := fun F H vs le h Q q => by
  obtain ⟨v, w, rfl, a, b⟩ := dpa2 h
  refine ⟨i, j, by rw [dp_int a, dp_int b], ?_⟩
  rw [show (if j < i then j else i) = min i j from by split <;> omega]
  exact q _ F H (Gr.refl le) (.int _)
theorem rc_max {i j : Int} : RDC K (fun xs H Q => ∃ i j, xs = [.int i, .int j] ∧ Q (.int (if j > i then j else i)) H) [.int i, .int j] (.int (max i j)) := fun F H vs le h Q q => by
  obtain ⟨v, w, rfl, a, b⟩ := dpa2 h
  refine ⟨i, j, by rw [dp_int a, dp_int b], ?_⟩
  rw [show (if j > i then j else i) = max i j from by split <;> omega]
  exact q _ F H (Gr.refl le) (.int _)
theorem rc_lenL : RDC K (fun xs H Q => ∃ x n, xs = [x] ∧ LenV K x H n ∧ Q (.int n) H) [.list ds] (.int ds.length) := fun F H vs le h Q q => by
  obtain ⟨v, rfl, a⟩ := dpa1 h
  obtain ⟨p, xs, rfl, b, c⟩ := dp_lst a
  exact ⟨_, ds.length, rfl, .inl ⟨xs, ex_l le b, (dpa_len c).symm⟩, q _ F H (Gr.refl le) (.int _)⟩
theorem rc_lenT : RDC K (fun xs H Q => ∃ x n, xs = [x] ∧ LenV K x H n ∧ Q (.int n) H) [.tuple ds] (.int ds.length) := fun F H vs le h Q q => by
  obtain ⟨v, rfl, a⟩ := dpa1 h
  obtain ⟨p, xs, rfl, b, c⟩ := dp_tup a
  exact ⟨_, ds.length, rfl, .inr ⟨xs, ex_t le b, (dpa_len c).symm⟩, q _ F H (Gr.refl le) (.int _)⟩
theorem rc_lenS {x : Str} (hx : x.length ≤ sizeLine) : RDC K (fun xs H Q => ∃ x n, xs = [x] ∧ LenV K x H n ∧ Q (.int n) H) [.str x] (.int x.length) := fun F H vs le h Q q => by
  obtain ⟨v, rfl, a⟩ := dpa1 h
  rw [dp_str a]
  exact ⟨_, x.length, rfl, ⟨hx, rfl⟩, q _ F H (Gr.refl le) (.int _)⟩
theorem rc_ord {x : Str} (hx : x.length = 1) : RDC K (fun xs H Q => ∃ x, xs = [.str x] ∧ x.length = 1 ∧ Q (.int (x.cps.getD 0 0 : Nat)) H) [.str x] (.int (x.cps.getD 0 0 : Nat)) := fun F H vs le h Q q => by
  obtain ⟨v, rfl, a⟩ := dpa1 h
  rw [dp_str a]
  exact ⟨x, rfl, hx, q _ F H (Gr.refl le) (.int _)⟩
theorem rc_all {bs : List Bool} : RDC K (rAll K) [.list (bs.map .bool)] (.bool (bs.all id)) := fun F H vs le h Q q => by
  obtain ⟨v, rfl, a⟩ := dpa1 h
  obtain ⟨p, xs, rfl, b, c⟩ := dp_lst a
  have e : xs = bs.map V.bl := by
    clear b a h q
    induction bs generalizing xs with
    | nil => cases c; rfl
    | cons z zs ih =>
      cases c with
      | cons c1 c2 => rw [dp_bl c1, List.map_cons, ih _ c2]
  subst e
  exact ⟨p, bs, rfl, ex_l le b, q _ F H (Gr.refl le) (.bl _)⟩
/-! items -/
theorem xd_ixL {i : Int} (ha : XD K ta ρ (.list ds)) (hb : XD K tb ρ (.int i)) (h : atI ds i = some d) : XD K (tOp (rIxL K) ta tb) ρ d :=
  xd_op ha hb fun F H x y le hx hy Q q => by
    obtain ⟨p, xs, rfl, b, c⟩ := dp_lst hx
    obtain ⟨j, e1, e2⟩ := Option.bind_eq_some_iff.mp (show (ixN ds.length i).bind (fun j => ds[j]?) = some d from h)
    obtain ⟨v, h1, h2⟩ := dpa_get c e2
    exact ⟨p, xs, i, v, rfl, dp_int hy, ex_l le b, by unfold atI; rw [dpa_len c, e1]; exact h1, q _ F H (Gr.refl le) h2⟩
theorem xd_ixT {i : Int} (ha : XD K ta ρ (.tuple ds)) (hb : XD K tb ρ (.int i)) (h : atI ds i = some d) : XD K (tOp (rIxT K) ta tb) ρ d :=
  xd_op ha hb fun F H x y le hx hy Q q => by
    obtain ⟨p, xs, rfl, b, c⟩ := dp_tup hx
    obtain ⟨j, e1, e2⟩ := Option.bind_eq_some_iff.mp (show (ixN ds.length i).bind (fun j => ds[j]?) = some d from h)
    obtain ⟨v, h1, h2⟩ := dpa_get c e2
    exact ⟨p, xs, i, v, rfl, dp_int hy, ex_t le b, by unfold atI; rw [dpa_len c, e1]; exact h1, q _ F H (Gr.refl le) h2⟩
theorem xd_ixS {i : Int} {x : Str} {c : Nat} (ha : XD K ta ρ (.str x)) (hb : XD K tb ρ (.int i)) (hx : x.length ≤ 100000) (h : atI x.cps.toList i = some c) : XD K (tOp rIxS ta tb) ρ (.str ⟨#[c]⟩) :=
  xd_op ha hb fun F H x' y le h1 h2 Q q => ⟨x, i, c, dp_str h1, dp_int h2, Evl.sz_of hx, h, q _ F H (Gr.refl le) (.str _)⟩
/-! slices -/
def cutD (xs : List PyData) (lo hi : Option Int) : List PyData := (xs.drop (HT.sIx xs.length 0 lo)).take (HT.sIx xs.length xs.length hi - HT.sIx xs.length 0 lo)
theorem dpa_cut {F : Hp} {vs : List V} (h : DqAll K F vs ds) (lo hi : Option Int) : DqAll K F (cutV vs lo hi) (cutD ds lo hi) := by
  unfold cutV cutD
  rw [dpa_len h]
  exact dpa_take _ (dpa_drop _ h)
theorem xp_none : XP K tNoPart ρ none := fun F0 H0 F H σ E Q q => q F H (Gr.refl E.le)
theorem xp_some {i : Int} (h : XD K te ρ (.int i)) : XP K (tPart te) ρ (some i) := fun F0 H0 F H σ E Q q => h F0 H0 F H σ E _ fun v F1 H1 g d => ⟨i, dp_int d, q F1 H1 g⟩
theorem xo_sl {tl th : TO} {lo hi : Option Int} (h : XD K te ρ (.list ds)) (h1 : XP K tl ρ lo) (h2 : XP K th ρ hi) : XO K (tSl (rSlL K) te tl th) ρ (cutD ds lo hi) := fun F0 H0 F H σ E Q q =>
  h F0 H0 F H σ E _ fun v F1 H1 g1 d1 => h1 F0 H0 F1 H1 σ (E.grow g1) _ fun F2 H2 g2 => h2 F0 H0 F2 H2 σ ((E.grow g1).grow g2) _ fun F3 H3 g3 => by
    obtain ⟨a, xs, rfl, b, c⟩ := dp_lst d1
    have g := (g1.trans g2).trans g3
    have c' := dpa_mono (g2.f.trans g3.f) _ _ c
    exact ⟨a, xs, rfl, ex_l g3.le (ex_l (g2.f.trans g3.f) b), fun p hp => q p _ F3 _ (g.trans (Gr.newH g.le hp _)) (Evl.fresh_back g.h hp) (free_of g.le hp) upd_same (dpa_cut c' lo hi)⟩
theorem xd_slT {tl th : TO} {lo hi : Option Int} (h : XD K te ρ (.tuple ds)) (h1 : XP K tl ρ lo) (h2 : XP K th ρ hi) (hw : ¬ (HT.sIx ds.length 0 lo = 0 ∧ HT.sIx ds.length ds.length hi = ds.length)) :
    XD K (tSl (rSlT K) te tl th) ρ (.tuple (cutD ds lo hi)) := fun F0 H0 F H σ E Q q =>
  h F0 H0 F H σ E _ fun v F1 H1 g1 d1 => h1 F0 H0 F1 H1 σ (E.grow g1) _ fun F2 H2 g2 => h2 F0 H0 F2 H2 σ ((E.grow g1).grow g2) _ fun F3 H3 g3 => by
    obtain ⟨a, xs, rfl, b, c⟩ := dp_tup d1
    have g := (g1.trans g2).trans g3
    have c' := dpa_mono (g2.f.trans g3.f) _ _ c
    refine ⟨a, xs, rfl, ex_t g3.le (ex_t (g2.f.trans g3.f) b), by rw [dpa_len c]; exact hw, fun p hp => ?_⟩
    have gn := Gr.new g.le hp (.tup (cutV xs lo hi))
    exact q _ _ _ (g.trans gn) (.tup (SqT.of upd_same) (dpa_mono gn.f _ _ (dpa_cut c' lo hi)))
/-! + of lists that may be read -/
def rCatR : R2 := fun x y H Q => ∃ l b xs zs, x = .ref l ∧ y = .ref b ∧ Rd H l (.lst xs) ∧ Rd H b (.lst zs) ∧ xs.length + zs.length ≤ sizeLine ∧ ∀ p, H p = none → Q (.ref p) (upd H p (.lst (xs ++ zs)))
theorem rd_lst {X : Cx} {pins : List (Addr × Obj)} {σ : L2.St} {H : Hp} {s : Shared} {a : Addr} {xs : List V} (I : Inv X pins σ H s) (h : Rd H a (.lst xs)) : ∃ (its : List Value) (n : Nat), Vals xs its ∧ s.heap.get? a = some { cls := .type "list", data := .seq its.toArray n } := by
  rcases h with h | ⟨o, h⟩
  · obtain ⟨_, its, n, r, e⟩ := (show ObjOk X.prog X.w H s.heap a (.lst xs) from I.hok a _ h)
    exact ⟨its, n, r, e⟩
  · obtain ⟨_, _, its, n, r, e⟩ := (show ObjOk X.prog X.w H s.heap a (.frz o (.lst xs)) from I.hok a _ h)
    exact ⟨its, n, r, e⟩
theorem op_catR {X : Cx} : OpR X (binaryOp .Add) rCatR := by
  intro pins s σ H x y v u Q I rx ry h
  obtain ⟨l, b, xs, zs, rfl, rfl, h1, h2, hz, q⟩ := h
  cases (show v = Value.ref l from rx)
  cases (show u = Value.ref b from ry)
  obtain ⟨i1, n1, r1, e1⟩ := rd_lst I h1
  obtain ⟨i2, n2, r2, e2⟩ := rd_lst I h2
  have l1 := r1.length
  have l2 := r2.length
  refine PySem.P.add_list e1 e2 ?_ (by simp only [List.size_toArray]; omega)
  rw [show i1.toArray ++ i2.toArray = (i1 ++ i2).toArray by simp]
  exact ⟨.ref _, _, I.lnew (t' := s.toks) (r1.append r2) (by rw [List.length_append]; exact hz), rfl, q _ I.fresh⟩
/-! + of lists (new ones), of tuples, of texts -/
theorem xo_cat (ha : XD K ta ρ (.list ds)) (hb : XD K tb ρ (.list es)) (hz : ds.length + es.length ≤ 100000) : XO K (tOp rCatR ta tb) ρ (ds ++ es) := fun F0 H0 F H σ E Q q =>
  ha F0 H0 F H σ E _ fun v F1 H1 g1 d1 => hb F0 H0 F1 H1 σ (E.grow g1) _ fun u F2 H2 g2 d2 => by
    have g := g1.trans g2
    obtain ⟨a, xs, rfl, a1, a2⟩ := dp_lstR d1
    obtain ⟨b, ys, rfl, b1, b2⟩ := dp_lstR d2
    exact ⟨a, b, xs, ys, rfl, rfl, ex_rd (g2.f.trans g2.le) a1, ex_rd g2.le b1, by rw [dpa_len a2, dpa_len b2]; exact Evl.sz_of hz, fun n hn =>
      q n _ F2 _ (g.trans (Gr.newH g.le hn _)) (Evl.fresh_back g.h hn) (free_of g.le hn) upd_same (dpa_app (dpa_mono g2.f _ _ a2) b2)⟩
theorem xd_catS {x y : Str} (ha : XD K ta ρ (.str x)) (hb : XD K tb ρ (.str y)) (hz : x.length + y.length ≤ 16777216) :
    XD K (tOp (fun x y H Q => ∃ i j, x = .str i ∧ y = .str j ∧ i.length + j.length ≤ sizeLine ∧ Q (.str (i ++ j)) H) ta tb) ρ (.str (x ++ y)) :=
  xd_op ha hb fun F H a b le h1 h2 Q q => ⟨x, y, dp_str h1, dp_str h2, Nat.le_trans hz (by decide), q _ F H (Gr.refl le) (.str _)⟩
theorem xd_catT (ha : XD K ta ρ (.tuple ds)) (hb : XD K tb ρ (.tuple es)) (hn : ds ≠ []) (hz : ds.length + es.length ≤ 100000) : XD K (tOp (rCatT K) ta tb) ρ (.tuple (ds ++ es)) :=
  xd_op ha hb fun F H x y le hx hy Q q => by
    obtain ⟨a, xs, rfl, b, c⟩ := dp_tup hx
    obtain ⟨a', ys, rfl, b', c'⟩ := dp_tup hy
    refine ⟨a, a', xs, ys, rfl, rfl, ex_t le b, ex_t le b', fun z => hn ?_, by rw [dpa_len c, dpa_len c']; exact Evl.sz_of hz, fun z => ?_, fun z p hp => ?_⟩
    · subst z; cases c; rfl
    · subst z
      cases c'
      exact q _ F H (Gr.refl le) (by rw [List.append_nil]; exact .tup b c)
    · have gn := Gr.new le hp (.tup (xs ++ ys))
      exact q _ _ _ gn (.tup (SqT.of upd_same) (dpa_mono gn.f _ _ (dpa_app c c')))
/-- a new list of one item, n times -/
theorem xo_rep1 {n : Int} (ha : XO K ta ρ [d]) (hb : XD K tb ρ (.int n)) (hz : -100000 ≤ n ∧ n ≤ 100000) : XO K (tOp rRep ta tb) ρ (List.replicate n.toNat d) := fun F0 H0 F H σ E Q q =>
  ha F0 H0 F H σ E _ fun p vs F1 H1 g1 hp p1 p2 p3 => hb F0 H0 F1 H1 σ (E.grow g1) _ fun y F2 H2 g2 d2 => by
    have g := g1.trans g2
    obtain ⟨v, rfl, dv⟩ := dpa1 p3
    have e : ∀ m : Nat, (List.replicate m [v]).flatten = List.replicate m v := fun m => by
      induction m with
      | zero => rfl
      | succ m ih => rw [List.replicate_succ, List.flatten_cons, ih]; rfl
    refine ⟨p, n, [v], rfl, dp_int d2, g2.h p _ p2, by omega, by omega, ?_, fun r hr => ?_⟩
    · exact Evl.sz_of (by simp only [List.length_singleton]; omega)
    · rw [e]
      exact q r _ F2 _ (g.trans (Gr.newH g.le hr _)) (Evl.fresh_back g.h hr) (free_of g.le hr) upd_same (dpa_rep (dp_mono g2.f _ _ dv) _)
end
end DD

set_option Elab.async false
set_option linter.all false
set_option maxRecDepth 100000
set_option maxHeartbeats 4000000
namespace DD
open PySem PySem.Spec PyProof.Rows L2
open Evl (Ex ex_l ex_t ex_rd)
section
variable {K : PySem.W.Frag} {ρ ρ' ρ'' : List Sl} {ta tb te : TE} {t u : TT} {d e : PyData} {ds es : List PyData}
/-! ### targets -/
theorem xg_name (i : Nat) : XG K (gName i) d ρ (ρ.set i (.dt d)) [i] := fun F0 H0 F H σ v E dv Q q =>
  q _ (E.setD i dv) ⟨List.length_set, fun k hk => List.getElem?_set_ne (fun z => hk (by rw [z]; exact List.mem_singleton_self _))⟩
def XGs (K : PySem.W.Frag) (g : TGs) (ds : List PyData) (ρ ρ' : List Sl) (vs : List Nat) : Prop := ∀ F0 H0 F H σ xs, Env K F0 H0 F H σ ρ → DqAll K F xs ds → ∀ Q : L2.St → Hp → Prop,
  (∀ σ', Env K F0 H0 F H σ' ρ' → (σ'.length = σ.length ∧ ∀ k, k ∉ vs → σ'[k]? = σ[k]?) → Q σ' H) → g xs σ H Q
theorem xgs_nil : XGs K gNil [] ρ ρ [] := fun F0 H0 F H σ xs E dv Q q => by
  cases dv
  exact ⟨rfl, q σ E ⟨rfl, fun _ _ => rfl⟩⟩
theorem xgs_cons {g : TG} {gs : TGs} {us vs : List Nat} (h1 : XG K g d ρ ρ' us) (h2 : XGs K gs ds ρ' ρ'' vs) : XGs K (gCons g gs) (d :: ds) ρ ρ'' (us ++ vs) := fun F0 H0 F H σ xs E dv Q q => by
  cases dv with
  | cons a b =>
    refine ⟨_, _, rfl, h1 F0 H0 F H σ _ E a _ fun σ1 E1 k1 => h2 F0 H0 F H σ1 _ E1 b _ fun σ2 E2 k2 => q σ2 E2 ⟨k2.1.trans k1.1, fun k hk => ?_⟩⟩
    rw [k2.2 k fun z => hk (List.mem_append_right _ z), k1.2 k fun z => hk (List.mem_append_left _ z)]
theorem xg_tup {n : Nat} {gs : TGs} {vs : List Nat} (h : XGs K gs ds ρ ρ' vs) (hn : ds.length = n) : XG K (gTup K n gs) (.tuple ds) ρ ρ' vs := fun F0 H0 F H σ v E dv Q q => by
  obtain ⟨a, xs, rfl, b, c⟩ := dp_tup dv
  exact ⟨a, xs, rfl, ex_t E.le b, by rw [dpa_len c]; exact hn, h F0 H0 F H σ xs E c Q q⟩
/-! ### iterators -/
theorem xi_list (h : XD K te ρ (.list ds)) : XI K (iList K te) ρ ds.length (fun i => ds.getD i .none) := fun F0 H0 F H σ E R r =>
  h F0 H0 F H σ E _ fun v F1 H1 g d1 => by
    obtain ⟨a, xs, rfl, b, c⟩ := dp_lst d1
    refine ⟨a, rfl, ⟨xs, ex_l g.le b⟩, r _ F1 H1 g ⟨fun i H2 e2 hi => ?_, fun i H2 e2 hi => ⟨xs, ex_l e2 b, by rw [dpa_len c]; exact hi⟩, fun i F2 H2 x H3 e1 e2 hi hy => ?_⟩⟩
    · have hx : i < xs.length := by rw [dpa_len c]; exact hi
      exact ⟨xs, xs[i], ex_l e2 b, List.getElem?_eq_getElem hx⟩
    · obtain ⟨rfl, hall⟩ := hy
      have hg : ds[i]? = some (ds.getD i .none) := by
        rw [List.getD_eq_getElem?_getD, List.getElem?_eq_getElem hi]; rfl
      obtain ⟨v, q1, q2⟩ := dpa_get c hg
      have hv := hall xs (ex_l e2 (ex_l e1 b))
      rw [q1] at hv
      cases hv
      exact ⟨F2, Gr.refl e2, dp_mono e1 _ _ q2⟩
theorem xi_tup (h : XD K te ρ (.tuple ds)) : XI K (iTup K te) ρ ds.length (fun i => ds.getD i .none) := fun F0 H0 F H σ E R r =>
  h F0 H0 F H σ E _ fun v F1 H1 g d1 => by
    obtain ⟨a, xs, rfl, b, c⟩ := dp_tup d1
    refine ⟨a, rfl, ⟨xs, ex_t g.le b⟩, r _ F1 H1 g ⟨fun i H2 e2 hi => ?_, fun i H2 e2 hi => ⟨xs, ex_t e2 b, by rw [dpa_len c]; exact hi⟩, fun i F2 H2 x H3 e1 e2 hi hy => ?_⟩⟩
    · have hx : i < xs.length := by rw [dpa_len c]; exact hi
      exact ⟨xs, xs[i], ex_t e2 b, List.getElem?_eq_getElem hx⟩
    · obtain ⟨rfl, hall⟩ := hy
      have hg : ds[i]? = some (ds.getD i .none) := by
        rw [List.getD_eq_getElem?_getD, List.getElem?_eq_getElem hi]; rfl
      obtain ⟨v, q1, q2⟩ := dpa_get c hg
      have hv := hall xs (ex_t e2 (ex_t e1 b))
      rw [q1] at hv
      cases hv
      exact ⟨F2, Gr.refl e2, dp_mono e1 _ _ q2⟩
theorem itr_d {F : Hp} {lo : Int} {n : Nat} : ItD K (Itr lo n) F n (fun i => .int (lo + i)) :=
  ⟨fun i H _ hi => hi, fun i H _ hi => hi, fun i F1 H x H' _ e2 _ hy => by
    obtain ⟨rfl, rfl⟩ := hy
    exact ⟨F1, Gr.refl e2, .int _⟩⟩
theorem xi_rng1 {tr : TA} {n : Int} (h : XA K tr ρ [.int n]) (hn : -100000 ≤ n ∧ n ≤ 100000) : XI K (iRng1 tr) ρ n.toNat (fun i => .int i) := fun F0 H0 F H σ E R r =>
  h F0 H0 F H σ E _ fun vs F1 H1 g d1 => by
    obtain ⟨v, rfl, dv⟩ := dpa1 d1
    rw [dp_int dv]
    refine ⟨n, rfl, by omega, by omega, r _ F1 H1 g ?_⟩
    have := itr_d (K := K) (F := F1) (lo := 0) (n := n.toNat)
    simpa using this
theorem xi_rng2 {tr : TA} {m n : Int} (h : XA K tr ρ [.int m, .int n]) (hm : -100000 ≤ m ∧ m ≤ 100000) (hn : -100000 ≤ n ∧ n ≤ 100000) : XI K (iRng2 tr) ρ (n - m).toNat (fun i => .int (m + i)) := fun F0 H0 F H σ E R r =>
  h F0 H0 F H σ E _ fun vs F1 H1 g d1 => by
    obtain ⟨v, w, rfl, dv, dw⟩ := dpa2 d1
    rw [dp_int dv, dp_int dw]
    exact ⟨m, n, rfl, ⟨by omega, by omega, by omega, by omega⟩, r _ F1 H1 g itr_d⟩
/-! ### comprehensions -/
theorem wipe_len (σ : L2.St) : ∀ vs : List Nat, (L2.wipe σ vs).length = σ.length := L2.wipe_length σ
theorem wipe_get (σ : L2.St) : ∀ (vs : List Nat) (k : Nat), (L2.wipe σ vs)[k]? = if k ∈ vs ∧ k < σ.length then some none else σ[k]?
  | [], k => by
    rw [if_neg (by simp)]; rfl
  | v :: vs, k => by
    show ((L2.wipe σ vs).set v none)[k]? = _
    by_cases hk : v = k
    · subst hk
      by_cases hl : v < σ.length
      · rw [List.getElem?_set_self (by rw [wipe_len]; exact hl), if_pos ⟨List.mem_cons_self, hl⟩]
      · rw [if_neg (fun z => hl z.2), List.getElem?_eq_none_iff.mpr (by rw [List.length_set, wipe_len]; omega), List.getElem?_eq_none_iff.mpr (by omega)]
    · rw [List.getElem?_set_ne hk, wipe_get σ vs k]
      by_cases hm : k ∈ vs ∧ k < σ.length
      · rw [if_pos hm, if_pos ⟨List.mem_cons_of_mem _ hm.1, hm.2⟩]
      · rw [if_neg hm, if_neg]
        rintro ⟨a, b⟩
        rcases List.mem_cons.mp a with z | z
        · exact hk z.symm
        · exact hm ⟨z, b⟩
theorem wipe_ext {σ σ' : L2.St} {vs : List Nat} (hl : σ'.length = σ.length) (h : ∀ k, k ∉ vs → σ'[k]? = (L2.wipe σ vs)[k]?) : L2.wipe σ' vs = L2.wipe σ vs := by
  apply List.ext_getElem?
  intro k
  rw [wipe_get, hl]
  by_cases hk : k ∈ vs
  · by_cases hz : k < σ.length
    · rw [if_pos ⟨hk, hz⟩, wipe_get, if_pos ⟨hk, hz⟩]
    · rw [if_neg (fun z => hz z.2), List.getElem?_eq_none_iff.mpr (by omega), List.getElem?_eq_none_iff.mpr (by rw [wipe_len]; omega)]
  · rw [if_neg (fun z => hk z.1), h k hk]
/-- what has been made: the list of what the turns below n gave -/
def madeD (n : Nat) (f : Nat → Bool) (g : Nat → PyData) : List PyData := ((List.range n).filter f).map g
theorem madeD_yes {n : Nat} {f : Nat → Bool} {g : Nat → PyData} (h : f n = true) : madeD (n + 1) f g = madeD n f g ++ [g n] := by
  unfold madeD
  rw [List.range_succ, List.filter_append, List.map_append, List.filter_cons, if_pos h]
  rfl
theorem madeD_no {n : Nat} {f : Nat → Bool} {g : Nat → PyData} (h : f n = false) : madeD (n + 1) f g = madeD n f g := by
  unfold madeD
  rw [List.range_succ, List.filter_append, List.map_append, List.filter_cons, if_neg (by rw [h]; decide)]
  simp
theorem madeD_len (n : Nat) (f : Nat → Bool) (g : Nat → PyData) : (madeD n f g).length ≤ n := by
  unfold madeD
  rw [List.length_map]
  exact Nat.le_trans (List.length_filter_le f _) (by rw [List.length_range]; exact Nat.le_refl _)
theorem xo_lc {wi : TI} {g : TG} {tt : TT} {vs : List Nat} {n : Nat} {it : Nat → PyData} {f : Nat → Bool} {r : Nat → PyData} {ρt : Nat → List Sl} (hi : XI K wi ρ n it) (hn : n ≤ 50000)
    (hg : ∀ i, i < n → XG K g (it i) (wipeS ρ vs) (ρt i) vs) (ht : ∀ i, i < n → XT K tt (ρt i) (f i)) (he : ∀ i, i < n → f i = true → XD K te (ρt i) (r i)) : XO K (tLc wi g tt te vs) ρ (madeD n f r) := fun F0 H0 F H σ E Q q =>
  hi F0 H0 F H σ E _ fun J F1 H1 g1 hJ => by
    intro D hD
    have E1 := E.grow g1
    have hF1 : F1 D = none := free_of g1.le hD
    refine ⟨fun i m H2 => m = n - i ∧ i ≤ n ∧ ∃ F2 us, Gr F1 H1 F2 H2 ∧ F2 D = none ∧ H2 D = some (.lst us) ∧ DqAll K F2 us (madeD i f r), ⟨n, by omega, Nat.zero_le _, F1, [], Gr.newH g1.le hD _, hF1, upd_same, .nil⟩, ?_⟩
    rintro i m H2 ⟨rfl, hi, F2, us, g2, d1, d2, d3⟩
    by_cases hlt : i < n
    · refine .inr ⟨hJ.1 i H2 (g2.f.trans g2.le) hlt, fun H' => ∃ F2 us, Gr F1 H1 F2 H' ∧ F2 D = none ∧ H' D = some (.lst us) ∧ DqAll K F2 us (madeD (i + 1) f r), ?_, ?_⟩
      · rintro H' hN
        exact ⟨n - (i + 1), by omega, rfl, hlt, hN⟩
      · intro x H3 hy
        obtain ⟨F3, g3, dx⟩ := hJ.2.2 i F2 H2 x H3 g2.f g2.le hlt hy
        have E3 := ((E1.grow g2).grow g3).wipe vs
        refine hg i hlt F0 H0 F3 H3 _ x E3 dx _ fun σ2 E4 hk => ⟨wipe_ext (by rw [hk.1, wipe_len]) hk.2, ?_⟩
        refine ht i hlt F0 H0 F3 H3 σ2 E4 _ fun F4 H4 g4 => ?_
        have hH3 : H3 D = some (.lst us) := g3.h D _ d2
        have hF3 : F3 D = none := g3.own D (by rw [d2]; exact nofun) d1
        cases hf : f i with
        | true =>
          rw [if_pos rfl]
          refine he i hlt hf F0 H0 F4 H4 σ2 (E4.grow g4) _ fun v F5 H5 g5 d5 => ?_
          have g35 := g4.trans g5
          have hH5 : H5 D = some (.lst us) := g35.h D _ hH3
          have hF5 : F5 D = none := g35.own D (by rw [hH3]; exact nofun) hF3
          have gg := (g2.trans g3).trans g35
          refine ⟨us, hH5, ?_, F5, us ++ [v], ⟨gg.f, gg.h.mut hD, gg.le.mut hF5, gg.own⟩, hF5, upd_same, ?_⟩
          · have := madeD_len i f r
            rw [← dpa_len d3] at this
            exact Evl.sz_lt (by omega)
          · rw [madeD_yes hf]
            exact dpa_app (dpa_mono (g3.f.trans g35.f) _ _ d3) (.cons d5 .nil)
        | false =>
          rw [if_neg (by decide)]
          have gg := (g2.trans g3).trans g4
          refine ⟨F4, us, gg, g4.own D (by rw [hH3]; exact nofun) hF3, g4.h D _ hH3, ?_⟩
          rw [madeD_no hf]
          exact dpa_mono (g3.f.trans g4.f) _ _ d3
    · have hin : i = n := by omega
      subst hin
      exact .inl ⟨hJ.2.1 i H2 (g2.f.trans g2.le) (Nat.le_refl _), q D us F2 H2 (g1.trans g2) (Evl.fresh_back g1.h hD) d1 d2 d3⟩
end
/-! ### statements -/
section
variable {K : PySem.W.Frag} {ρ ρ' ρ'' : List Sl} {ta tb te : TE} {tt : TT} {t u w : TS} {d e : PyData} {ds es : List PyData} {N M : List Sl → Prop} {R : PyData → Prop} {B : Hp → Hp → Prop}
theorem sd_mono {N' : List Sl → Prop} (h : SD K B t ρ N R) (hN : ∀ r, N r → N' r) : SD K B t ρ N' R := fun F0 H0 F H σ D hB E n r =>
  h F0 H0 F H σ D hB E (fun F' H' σ' ρ' a => n F' H' σ' ρ' (hN _ a)) r
theorem sd_seq (h1 : SD K B t ρ M R) (h2 : ∀ ρ', M ρ' → SD K B u ρ' N R) : SD K B (tSeq t u) ρ N R := fun F0 H0 F H σ D hB E n r =>
  h1 F0 H0 F H σ { D with nx := u D } hB E (fun F1 H1 σ1 ρ1 a e1 E1 => h2 ρ1 a F0 H0 F1 H1 σ1 D hB E1 (fun F2 H2 σ2 ρ2 b e2 E2 => n F2 H2 σ2 ρ2 b (e1.trans e2) E2) r) r
theorem sd_next (h : N ρ) : SD K B tNext ρ N R := fun F0 H0 F H σ D hB E n r => n F H σ ρ h (Ex.refl F) E
theorem sd_asg {g : TG} {vs : List Nat} (h : XD K te ρ d) (hg : XG K g d ρ ρ' vs) (k : N ρ') : SD K B (tAsg te g) ρ N R := fun F0 H0 F H σ D hB E n r =>
  h F0 H0 F H σ E _ fun v F1 H1 g1 d1 => hg F0 H0 F1 H1 σ v (E.grow g1) d1 _ fun σ2 E2 _ => n F1 H1 σ2 ρ' k g1.f E2
theorem sd_asgO {i : Nat} (h : XO K te ρ ds) (k : N (ρ.set i (.ow ds))) : SD K B (tAsg te (gName i)) ρ N R := fun F0 H0 F H σ D hB E n r =>
  h F0 H0 F H σ E _ fun p vs F1 H1 g1 hp h1 h2 h3 => n F1 H1 _ _ k g1.f (E.setO i g1 hp h1 h2 h3)
theorem sd_drop (h : XD K te ρ d) (k : N ρ) : SD K B (tDrop te) ρ N R := fun F0 H0 F H σ D hB E n r =>
  h F0 H0 F H σ E _ fun v F1 H1 g1 d1 => n F1 H1 σ ρ k g1.f (E.grow g1)
theorem sd_ret (h : XD K te ρ d) (k : R d) : SD K B (tRet te) ρ N R := fun F0 H0 F H σ D hB E n r =>
  h F0 H0 F H σ E _ fun v F1 H1 g1 d1 => r F1 H1 v d k (E.gr.trans g1) d1
theorem sd_if {b : Bool} (h : XT K tt ρ b) (h1 : b = true → SD K B t ρ N R) (h2 : b = false → SD K B u ρ N R) : SD K B (tIfS tt t u) ρ N R := fun F0 H0 F H σ D hB E n r =>
  h F0 H0 F H σ E _ fun F1 H1 g1 => by
    cases b with
    | true => exact h1 rfl F0 H0 F1 H1 σ D hB (E.grow g1) (fun F' H' σ' ρ' a e E' => n F' H' σ' ρ' a (g1.f.trans e) E') r
    | false => exact h2 rfl F0 H0 F1 H1 σ D hB (E.grow g1) (fun F' H' σ' ρ' a e E' => n F' H' σ' ρ' a (g1.f.trans e) E') r
/-- an own list of the frame is from here on read only -/
theorem sd_frz (i : Nat) (hi : ρ[i]? = some (.ow ds)) (h : SD K B t (ρ.set i (.dt (.list ds))) N R) : SD K B t ρ N R := fun F0 H0 F H σ D hB E n r => by
  obtain ⟨F1, e1, E1⟩ := E.frz hi
  exact h F0 H0 F1 H σ D hB E1 (fun F' H' σ' ρ' a e E' => n F' H' σ' ρ' a (e1.trans e) E') r
/-- xs.append(e) of an own list -/
theorem sd_app {i : Nat} (hi : ρ[i]? = some (.ow ds)) (h : XD K te ρ d) (hz : ds.length < 100000) (k : N (ρ.set i (.ow (ds ++ [d])))) : SD K B (tDrop (tBM K "list" rAppend (tVar i) (tCons te tNil))) ρ N R := fun F0 H0 F H σ D hB E n r => by
  obtain ⟨s, a, p, vs, rfl, p0, pF, pH, pd⟩ := E.ok i _ hi
  refine ⟨.ref p, a, Or.inl ⟨rfl, vs, SqL.of pH⟩, ?_⟩
  refine h F0 H0 F H σ E _ fun v F1 H1 g1 d1 => ⟨p, vs, v, rfl, rfl, g1.h p _ pH, by rw [dpa_len pd]; exact Evl.sz_lt hz, ?_⟩
  exact n F1 _ σ _ k g1.f ((E.grow g1).upO hi a (dpa_app (dpa_mono g1.f _ _ pd) (.cons d1 .nil)))
/-- for target in iterable: I by the turn -/
theorem sd_for {wi : TI} {g : TG} {n : Nat} {it : Nat → PyData} (I : Nat → List Sl → Prop) (hi : XI K wi ρ n it) (h0 : I 0 ρ)
    (hs : ∀ i ρ1, i < n → I i ρ1 → ∃ ρ2 vs, XG K g (it i) ρ1 ρ2 vs ∧ SD K B t ρ2 (I (i + 1)) R) (hd : ∀ ρ', I n ρ' → N ρ') : SD K B (tFor wi g t) ρ N R := fun F0 H0 F H σ D hB E nn r =>
  hi F0 H0 F H σ E _ fun J F1 H1 g1 hJ => by
    refine ⟨fun i m σ' H' => m = n - i ∧ i ≤ n ∧ ∃ F2 ρ2, Ex F1 F2 ∧ I i ρ2 ∧ Env K F0 H0 F2 H' σ' ρ2, ⟨n, by omega, Nat.zero_le _, F1, ρ, Ex.refl F1, h0, E.grow g1⟩, ?_⟩
    rintro i m σ2 H2 ⟨rfl, hin, F2, ρ2, e2, hI, E2⟩
    by_cases hlt : i < n
    · refine .inr ⟨hJ.1 i H2 (e2.trans E2.le) hlt, fun σ' H' => ∃ F2 ρ2, Ex F1 F2 ∧ I (i + 1) ρ2 ∧ Env K F0 H0 F2 H' σ' ρ2, ?_, ?_⟩
      · rintro σ' H' hN
        exact ⟨n - (i + 1), by omega, rfl, hlt, hN⟩
      · intro x H3 hy
        obtain ⟨F3, g3, dx⟩ := hJ.2.2 i F2 H2 x H3 e2 E2.le hlt hy
        obtain ⟨ρ3, _, hg, hb⟩ := hs i ρ2 hlt hI
        refine hg F0 H0 F3 H3 σ2 x (E2.grow g3) dx _ fun σ4 E4 _ => ?_
        exact hb F0 H0 F3 H3 σ4 _ hB E4 (fun F5 H5 σ5 ρ5 a e5 E5 => ⟨F5, ρ5, (e2.trans g3.f).trans e5, a, E5⟩) r
    · have hin : i = n := by omega
      subst hin
      exact .inl ⟨hJ.2.1 i H2 (e2.trans E2.le) (Nat.le_refl _), nn F2 H2 σ2 ρ2 (hd ρ2 hI) (g1.f.trans e2) E2⟩
/-! together -/
theorem sd_asgq {g : TG} {vs : List Nat} (h : XD K te ρ d) (hg : XG K g d ρ ρ' vs) (k : SD K B u ρ' N R) : SD K B (tSeq (tAsg te g) u) ρ N R := sd_seq (M := fun r => r = ρ') (sd_asg h hg rfl) fun _ e => e ▸ k
theorem sd_setq {i : Nat} (h : XD K te ρ d) (k : SD K B u (ρ.set i (.dt d)) N R) : SD K B (tSeq (tAsg te (gName i)) u) ρ N R := sd_asgq h (xg_name i) k
theorem sd_setOq {i : Nat} (h : XO K te ρ ds) (k : SD K B u (ρ.set i (.ow ds)) N R) : SD K B (tSeq (tAsg te (gName i)) u) ρ N R := sd_seq (M := fun r => r = ρ.set i (.ow ds)) (sd_asgO h rfl) fun _ e => e ▸ k
theorem sd_ifq {b : Bool} (h : XT K tt ρ b) (h1 : b = true → SD K B (tSeq t w) ρ N R) (h2 : b = false → SD K B w ρ N R) : SD K B (tSeq (tIfS tt t tNext) w) ρ N R := fun F0 H0 F H σ D hB E n r =>
  h F0 H0 F H σ E _ fun F1 H1 g1 => by
    cases b with
    | true => exact h1 rfl F0 H0 F1 H1 σ D hB (E.grow g1) (fun F' H' σ' ρ' a e E' => n F' H' σ' ρ' a (g1.f.trans e) E') r
    | false => exact h2 rfl F0 H0 F1 H1 σ D hB (E.grow g1) (fun F' H' σ' ρ' a e E' => n F' H' σ' ρ' a (g1.f.trans e) E') r
/-- an if whose suite returns, what follows it -/
theorem sd_ifr {b : Bool} (h : XT K tt ρ b) (h1 : b = true → SD K B t ρ (fun _ => False) R) (h2 : b = false → SD K B w ρ N R) : SD K B (tSeq (tIfS tt t tNext) w) ρ N R := 
  sd_ifq h (fun hb => sd_seq (h1 hb) fun _ z => z.elim) h2
theorem sd_forq {wi : TI} {g : TG} {n : Nat} {it : Nat → PyData} (I : Nat → List Sl → Prop) (hi : XI K wi ρ n it) (h0 : I 0 ρ)
    (hs : ∀ i ρ1, i < n → I i ρ1 → ∃ ρ2 vs, XG K g (it i) ρ1 ρ2 vs ∧ SD K B t ρ2 (I (i + 1)) R) (hd : ∀ ρ', I n ρ' → SD K B u ρ' N R) : SD K B (tSeq (tFor wi g t) u) ρ N R :=
  sd_seq (M := I n) (sd_for I hi h0 hs fun _ h => h) hd
end
/-! ### defs -/
/-- the promise of a def of data: P says of which data it is called, and what it then gives -/
def spD (K : PySem.W.Frag) (n : Nat) (P : List PyData → PyData → Prop) : Sp := fun vs H Q _ => vs.length = n ∧ ∃ F ds d, Ex F H ∧ DqAll K F vs ds ∧ P ds d ∧ ∀ v F' H', Gr F H F' H' → Dq K F' v d → Q v H'
section
variable {K : PySem.W.Frag} {ρ : List Sl} {ds : List PyData} {d : PyData}
theorem xd_call {n : Nat} {P : List PyData → PyData → Prop} {E : XK} {tr : TA} (h : XA K tr ρ ds) (hl : ds.length = n) (hP : P ds d) : XD K (tCall (spD K n P) [] E tr) ρ d := fun F0 H0 F H σ E Q q =>
  h F0 H0 F H σ E _ fun vs F1 H1 g1 d1 => ⟨by rw [List.append_nil, dpa_len d1]; exact hl, F1, ds, d, g1.le, by rw [List.append_nil]; exact d1, hP, fun v F2 H2 g2 d2 => q v F2 H2 (g1.trans g2) d2⟩
theorem spD_len {n : Nat} {P : List PyData → PyData → Prop} (vs : List V) (H : Hp) (Q : VK) (E : XK) (h : spD K n P vs H Q E) : vs.length = n := h.1
theorem env_start {F H : Hp} {N : List Str} {vs : List V} (le : Ex F H) (h : DqAll K F vs ds) (hn : vs.length ≤ N.length) : Env K F H F H (L2.start N vs) (ds.map .dt ++ List.replicate (N.length - ds.length) .no) := by
  refine ⟨Gr.refl le, ?_, fun i x hx => ?_, fun i j p di dj _ hi => ?_⟩
  · unfold L2.start
    simp [dpa_len h]
  · unfold L2.start
    by_cases hi : i < vs.length
    · rw [List.getElem?_append_left (by rw [List.length_map, ← dpa_len h]; exact hi), List.getElem?_map] at hx
      obtain ⟨e, he, rfl⟩ := Option.map_eq_some_iff.mp hx
      obtain ⟨v, h1, h2⟩ := dpa_get h he
      exact ⟨some v, by rw [List.getElem?_append_left (by rw [List.length_map]; exact hi), List.getElem?_map, h1]; rfl, v, rfl, h2⟩
    · have hl := dpa_len h
      rw [List.getElem?_append_right (by rw [List.length_map, ← hl]; omega), List.length_map] at hx
      obtain ⟨h1, h2⟩ := List.getElem?_eq_some_iff.mp hx
      rw [List.getElem_replicate] at h2
      subst h2
      rw [List.length_replicate] at h1
      refine ⟨none, ?_, trivial⟩
      rw [List.getElem?_append_right (by rw [List.length_map]; omega), List.length_map, List.getElem?_replicate, if_pos (by omega)]
  · exfalso
    by_cases hi' : i < ds.length
    · rw [List.getElem?_append_left (by rw [List.length_map]; exact hi'), List.getElem?_map] at hi
      obtain ⟨e, he, z⟩ := Option.map_eq_some_iff.mp hi
      cases z
    · rw [List.getElem?_append_right (by rw [List.length_map]; omega), List.length_map] at hi
      obtain ⟨h1, h2⟩ := List.getElem?_eq_some_iff.mp hi
      rw [List.getElem_replicate] at h2
      cases h2
/-- the reading of a def's body, from its data -/
theorem body_D {t : TS} {n : Nat} {P : List PyData → PyData → Prop} {N : List Str} (hN : n ≤ N.length) {vs : List V} {H : Hp} {Q : VK} {E : XK} (h : spD K n P vs H Q E)
    (hb : ∀ ds d, ds.length = n → P ds d → SD K (fun _ _ => True) t (ds.map .dt ++ List.replicate (N.length - ds.length) .no) (fun _ => d = .none) (fun r => r = d)) : t { nx := fun _ H' => Q .non H', rt := Q } (L2.start N vs) H := by
  obtain ⟨hl, F, ds, d, le, hd, hP, q⟩ := h
  have hdl := dpa_len hd
  refine hb ds d (by omega) hP F H F H _ _ trivial (env_start le hd (by omega)) (fun F' H' σ' ρ' a _ E' => ?_) (fun F' H' v r a g dr => ?_)
  · subst a
    exact q _ F' H' E'.gr .non
  · subst a
    exact q v F' H' g dr
end
end DD

set_option Elab.async false
set_option linter.all false
set_option maxRecDepth 100000
set_option maxHeartbeats 4000000
namespace DD
open PySem PySem.Spec PyProof.Rows L2
open Evl (Ex ex_l ex_t ex_rd)
/-! ### a def that is called, with all that its callers ask -/
abbrev FnP (K : PySem.W.Frag) (x : Str) (st : Stmt) (f : Addr) (fd : FuncData) : Prop := FunD K x x (defArgs st) (defBody st) (defScope st) [] [] f fd
def Cal (Pg : Program) (w : World) (K : PySem.W.Frag) (mg : Str → Option Value) (base : Heap) (x : Str) (k n : Nat) (P : List PyData → PyData → Prop) : Prop :=
  ∃ (f : Addr) (fd : FuncData) (ps : List Str), mg x = some (.ref f) ∧ PySem.W.keepIn K (.ref f) = true ∧ Binds K fd ps [] ∧ FnOk Pg w K mg base CX0 k f fd ps (spD K n P)
theorem pe_callC {X : Cx} {x : Str} {k n : Nat} {P : List PyData → PyData → Prop} {p pos : Pos} {e : Expr} {es : List Expr} {t : TA} (C : Cal X.prog X.w X.K X.mg X.base x k n P) (hr : Room k X.A) (hg : Gl X x) (ha : PA X (e :: es) t)
    (hdb : (x == ("__debug__" : Str)) = false := by decide) (he : starEach (e :: es) X.env = (false, eval e X.env) :: starEach es X.env := by rfl) (hpl : (backTo pos (starEach es X.env)).any (·.1) = false := by rfl) :
    PE X (.Call (.Name x p) (e :: es) [] pos) (tCall (spD X.K n P) [] E0 t) := by
  obtain ⟨f, fd, ps, hm, hk, hb, F⟩ := C
  exact pe_call F hr hg hm hk hb .nil pass0 ha hdb he hpl
section
variable {K : PySem.W.Frag} {ρ : List Sl} {ta tb te : TE} {d e : PyData} {ds es : List PyData}
theorem xt_yes : XT K tYes ρ true := fun F0 H0 F H σ E Q q => q F H (Gr.refl E.le)
theorem atI_in {α : Type} {xs : List α} {i : Int} (x0 : α) (h : 0 ≤ i ∧ i < xs.length) : atI xs i = some (xs.getD i.toNat x0) := by
  have hl : i.toNat < xs.length := by omega
  unfold atI ixN
  rw [if_pos h.1, if_pos h.2]
  show xs[i.toNat]? = _
  rw [List.getD_eq_getElem?_getD, List.getElem?_eq_getElem hl]
  rfl
/-- an item of a list of like things -/
theorem xd_ixM {α : Type} {xs : List α} {f : α → PyData} {i : Int} (x0 : α) (ha : XD K ta ρ (.list (xs.map f))) (hb : XD K tb ρ (.int i)) (h : 0 ≤ i ∧ i < xs.length) : XD K (tOp (rIxL K) ta tb) ρ (f (xs.getD i.toNat x0)) := by
  refine xd_ixL ha hb ?_
  have hl : i.toNat < xs.length := by omega
  rw [atI_in (f x0) (by rw [List.length_map]; exact h)]
  rw [List.getD_eq_getElem?_getD, List.getElem?_map, List.getD_eq_getElem?_getD, List.getElem?_eq_getElem hl]
  rfl
/-- [a, b][int(test)] -/
theorem xd_pick {b : Bool} (ha : XO K ta ρ [d, e]) (hb : XD K tb ρ (.int (if b then 1 else 0))) : XD K (tOp (rIxL K) ta tb) ρ (if b then e else d) :=
  xd_ixL ha.xd hb (by cases b <;> rfl)
theorem rc_lenM {α : Type} {xs : List α} {f : α → PyData} : RDC K (fun xs H Q => ∃ x n, xs = [x] ∧ LenV K x H n ∧ Q (.int n) H) [.list (xs.map f)] (.int xs.length) := by
  have := rc_lenL (K := K) (ds := xs.map f)
  rw [List.length_map] at this
  exact this
theorem xd_ite {b : Bool} {x y : PyData} (h1 : b = true → XD K te ρ x) (h2 : b = false → XD K te ρ y) : XD K te ρ (if b then x else y) := by
  cases b
  · exact h2 rfl
  · exact h1 rfl
end
end DD

set_option Elab.async false
set_option linter.all false
set_option maxRecDepth 100000
set_option maxHeartbeats 4000000
namespace DD
open PySem PySem.Spec PyProof.Rows L2
open Evl (Ex ex_l ex_t ex_rd)
abbrev rLenD (K : PySem.W.Frag) : List V → Hp → VK → Prop := fun xs H Q => ∃ x n, xs = [x] ∧ LenV K x H n ∧ Q (.int n) H
abbrev rListD (K : PySem.W.Frag) : List V → Hp → VK → Prop := fun xs H Q => ∃ p ys, xs = [.ref p] ∧ (SqL K H p ys ∨ SqT K H p ys) ∧ ∀ l, H l = none → Q (.ref l) (upd H l (.lst ys))
abbrev rJoinD (K : PySem.W.Frag) : V → List V → Hp → VK → Prop := fun x xs H Q => ∃ a p, ∃ ys : List Str, x = .str a ∧ xs = [.ref p] ∧ (SqL K H p (ys.map V.str) ∨ SqT K H p (ys.map V.str)) ∧ (ys.map (·.length)).sum + ys.length * a.length ≤ 16777216 ∧ Q (.str (Txt.join a ys)) H
/-! isinstance -/
def tyD : PyData → String
  | .none => "NoneType"
  | .bool _ => "bool"
  | .int _ => "int"
  | .str _ => "str"
  | .list _ => "list"
  | .tuple _ => "tuple"
  | .dict _ => "dict"
theorem tyX_of {K : PySem.W.Frag} {F : Hp} {v : V} {d : PyData} (h : Dq K F v d) : TyX K F v (.type (tyD d)) := by
  cases h with
  | non => exact .base .non
  | bl b => exact .base (.bl b)
  | int i => exact .base (.int i)
  | str x => exact .base (.str x)
  | lst h _ =>
    rcases h with h | ⟨o, h⟩
    · exact .base (.lst h)
    · exact .base (.frz h)
  | tup h _ =>
    rcases h with (h | ⟨o, h⟩) | ⟨o, its, n, e, c, _⟩
    · exact .base (.tup h)
    · exact .fTuple h
    · exact .kTuple e c
section
variable {K : PySem.W.Frag} {ρ : List Sl} {ta tb te : TE} {d e : PyData} {ds es : List PyData}
def xdTy (n : String) : XK → Prop := fun _ => True
/-- isinstance(x, T), T a built-in type -/
theorem xd_isi {T T' : String} {b : Bool} (h : XD K te ρ d) (ht : tyD d = T') (hk : kitB T' T = some b) : XD K (tCB (rIsi K) (tCons te (tCons (tC (.ty T)) tNil))) ρ (.bool b) := fun F0 H0 F H σ E Q q =>
  h F0 H0 F H σ E _ fun v F1 H1 g d1 => ⟨v, .ty T, _, _, b, rfl, .ty T, tyX_of (dp_mono g.le _ _ d1), kit_ty (ht ▸ hk), q _ F1 H1 g (.bl b)⟩
def is_int : PyData → Bool
  | .int _ => true
  | .bool _ => true
  | _ => false
theorem xd_isint (h : XD K te ρ d) : XD K (tCB (rIsi K) (tCons te (tCons (tC (.ty "int")) tNil))) ρ (.bool (is_int d)) := by
  cases d
  · exact (xd_isi (T' := "NoneType") (b := false) h rfl (by decide +kernel))
  · exact (xd_isi (T' := "bool") (b := true) h rfl (by decide +kernel))
  · exact (xd_isi (T' := "int") (b := true) h rfl (by decide +kernel))
  · exact (xd_isi (T' := "str") (b := false) h rfl (by decide +kernel))
  · exact (xd_isi (T' := "list") (b := false) h rfl (by decide +kernel))
  · exact (xd_isi (T' := "tuple") (b := false) h rfl (by decide +kernel))
  · exact (xd_isi (T' := "dict") (b := false) h rfl (by decide +kernel))
def is_bool : PyData → Bool
  | .bool _ => true
  | _ => false
theorem xd_isbool (h : XD K te ρ d) : XD K (tCB (rIsi K) (tCons te (tCons (tC (.ty "bool")) tNil))) ρ (.bool (is_bool d)) := by
  cases d
  · exact (xd_isi (T' := "NoneType") (b := false) h rfl (by decide +kernel))
  · exact (xd_isi (T' := "bool") (b := true) h rfl (by decide +kernel))
  · exact (xd_isi (T' := "int") (b := false) h rfl (by decide +kernel))
  · exact (xd_isi (T' := "str") (b := false) h rfl (by decide +kernel))
  · exact (xd_isi (T' := "list") (b := false) h rfl (by decide +kernel))
  · exact (xd_isi (T' := "tuple") (b := false) h rfl (by decide +kernel))
  · exact (xd_isi (T' := "dict") (b := false) h rfl (by decide +kernel))
def is_str : PyData → Bool
  | .str _ => true
  | _ => false
theorem xd_isstr (h : XD K te ρ d) : XD K (tCB (rIsi K) (tCons te (tCons (tC (.ty "str")) tNil))) ρ (.bool (is_str d)) := by
  cases d
  · exact (xd_isi (T' := "NoneType") (b := false) h rfl (by decide +kernel))
  · exact (xd_isi (T' := "bool") (b := false) h rfl (by decide +kernel))
  · exact (xd_isi (T' := "int") (b := false) h rfl (by decide +kernel))
  · exact (xd_isi (T' := "str") (b := true) h rfl (by decide +kernel))
  · exact (xd_isi (T' := "list") (b := false) h rfl (by decide +kernel))
  · exact (xd_isi (T' := "tuple") (b := false) h rfl (by decide +kernel))
  · exact (xd_isi (T' := "dict") (b := false) h rfl (by decide +kernel))
def is_tuple : PyData → Bool
  | .tuple _ => true
  | _ => false
theorem xd_istuple (h : XD K te ρ d) : XD K (tCB (rIsi K) (tCons te (tCons (tC (.ty "tuple")) tNil))) ρ (.bool (is_tuple d)) := by
  cases d
  · exact (xd_isi (T' := "NoneType") (b := false) h rfl (by decide +kernel))
  · exact (xd_isi (T' := "bool") (b := false) h rfl (by decide +kernel))
  · exact (xd_isi (T' := "int") (b := false) h rfl (by decide +kernel))
  · exact (xd_isi (T' := "str") (b := false) h rfl (by decide +kernel))
  · exact (xd_isi (T' := "list") (b := false) h rfl (by decide +kernel))
  · exact (xd_isi (T' := "tuple") (b := true) h rfl (by decide +kernel))
  · exact (xd_isi (T' := "dict") (b := false) h rfl (by decide +kernel))
def is_list : PyData → Bool
  | .list _ => true
  | _ => false
theorem xd_islist (h : XD K te ρ d) : XD K (tCB (rIsi K) (tCons te (tCons (tC (.ty "list")) tNil))) ρ (.bool (is_list d)) := by
  cases d
  · exact (xd_isi (T' := "NoneType") (b := false) h rfl (by decide +kernel))
  · exact (xd_isi (T' := "bool") (b := false) h rfl (by decide +kernel))
  · exact (xd_isi (T' := "int") (b := false) h rfl (by decide +kernel))
  · exact (xd_isi (T' := "str") (b := false) h rfl (by decide +kernel))
  · exact (xd_isi (T' := "list") (b := true) h rfl (by decide +kernel))
  · exact (xd_isi (T' := "tuple") (b := false) h rfl (by decide +kernel))
  · exact (xd_isi (T' := "dict") (b := false) h rfl (by decide +kernel))
/-- x is True, x is False, x is not .. -/
theorem xd_isB {a b : Bool} (ha : XD K ta ρ (.bool a)) (hb : XD K tb ρ (.bool b)) : XD K (tOp (fun x y H Q => ∃ a b, x = .bl a ∧ y = .bl b ∧ Q (.bl (decide (a = b))) H) ta tb) ρ (.bool (decide (a = b))) :=
  xd_op ha hb fun F H x y le hx hy Q q => ⟨a, b, dp_bl hx, dp_bl hy, q _ F H (Gr.refl le) (.bl _)⟩
/-- list(xs) -/
theorem xo_list (h : XD K te ρ (.list ds)) : XO K (tCB (fun xs H Q => ∃ p ys, xs = [.ref p] ∧ (SqL K H p ys ∨ SqT K H p ys) ∧ ∀ l, H l = none → Q (.ref l) (upd H l (.lst ys))) (tCons te tNil)) ρ ds := fun F0 H0 F H σ E Q q =>
  h F0 H0 F H σ E _ fun v F1 H1 g d1 => by
    obtain ⟨p, xs, rfl, b, c⟩ := dp_lst d1
    exact ⟨p, xs, rfl, .inl (ex_l g.le b), fun l hl => q l xs F1 _ (g.trans (Gr.newH g.le hl _)) (Evl.fresh_back g.h hl) (free_of g.le hl) upd_same c⟩
theorem strs_of {F : Hp} : ∀ {xs : List V} {ys : List Str}, DqAll K F xs (ys.map .str) → xs = ys.map V.str
  | _, [], h => by cases h; rfl
  | _, y :: ys, h => by
    cases h with
    | cons a b => rw [dp_str a, List.map_cons, strs_of b]
/-- sep.join(xs) of a list of texts -/
theorem xd_join {a : Str} {ys : List Str} (h1 : XD K ta ρ (.str a)) (h2 : XD K te ρ (.list (ys.map .str))) (hz : (ys.map (·.length)).sum + ys.length * a.length ≤ 16777216) :
    XD K (tBM K "str" (fun x xs H Q => ∃ a p, ∃ ys : List Str, x = .str a ∧ xs = [.ref p] ∧ (SqL K H p (ys.map V.str) ∨ SqT K H p (ys.map V.str)) ∧ (ys.map (·.length)).sum + ys.length * a.length ≤ 16777216 ∧ Q (.str (Txt.join a ys)) H) ta (tCons te tNil)) ρ (.str (Txt.join a ys)) := fun F0 H0 F H σ E Q q =>
  h1 F0 H0 F H σ E _ fun v F1 H1 g d1 => by
    rw [dp_str d1]
    refine ⟨rfl, h2 F0 H0 F1 H1 σ (E.grow g) _ fun v2 F2 H2 g2 d2 => ?_⟩
    obtain ⟨p, xs, rfl, b, c⟩ := dp_lst d2
    rw [strs_of c] at b
    exact ⟨a, p, ys, rfl, rfl, .inl (ex_l g2.le b), hz, q _ F2 H2 (g.trans g2) (.str _)⟩
/-! what a comprehension without a test makes -/
theorem madeD_map {n : Nat} {r : Nat → PyData} : madeD n (fun _ => true) r = (List.range n).map r := by
  unfold madeD
  rw [List.filter_eq_self.mpr (fun _ _ => rfl)]
theorem map_range_get {α : Type} (xs : List α) (x0 : α) {β : Type} (f : α → β) : (List.range xs.length).map (fun i => f (xs.getD i x0)) = xs.map f := by
  apply List.ext_getElem
  · simp
  · intro i h1 h2
    simp only [List.length_map, List.length_range] at h1
    simp [List.getD_eq_getElem?_getD, List.getElem?_eq_getElem h1]
/-- [te for x in xs], xs a list of like things -/
theorem xo_lcM {α β : Type} {tl : TE} {j : Nat} {xs : List α} {f : α → PyData} {g : α → β} {h : β → PyData} (x0 : α) (hi : XD K tl ρ (.list (xs.map f))) (hn : xs.length ≤ 50000)
    (he : ∀ x, x ∈ xs → XD K te ((wipeS ρ [j]).set j (.dt (f x))) (h (g x))) : XO K (tLc (iList K tl) (gName j) tYes te [j]) ρ ((xs.map g).map h) := by
  have key := xo_lc (te := te) (vs := [j]) (f := fun _ => true) (r := fun i => h (g (xs.getD i x0))) (ρt := fun i => (wipeS ρ [j]).set j (.dt (f (xs.getD i x0)))) (xi_list hi) (by rw [List.length_map]; exact hn)
    (fun i hlt => by
      rw [List.length_map] at hlt
      have e : (xs.map f).getD i .none = f (xs.getD i x0) := by
        simp [List.getD_eq_getElem?_getD, List.getElem?_eq_getElem hlt]
      rw [e]
      exact xg_name j) (fun i hlt => xt_yes) (fun i hlt _ => by
      rw [List.length_map] at hlt
      refine he _ ?_
      rw [List.getD_eq_getElem?_getD, List.getElem?_eq_getElem hlt]
      exact List.getElem_mem hlt)
  refine key.is ?_
  rw [madeD_map, List.length_map, ← map_range_get xs x0 g, List.map_map]
  rfl
/-- two targets -/
theorem xo_lcM2 {α β : Type} {tl : TE} {j k : Nat} {xs : List α} {f1 f2 : α → PyData} {g : α → β} {h : β → PyData} (x0 : α) (hi : XD K tl ρ (.list (xs.map fun x => .tuple [f1 x, f2 x]))) (hn : xs.length ≤ 50000)
    (he : ∀ x, x ∈ xs → XD K te (((wipeS ρ [j, k]).set j (.dt (f1 x))).set k (.dt (f2 x))) (h (g x))) : XO K (tLc (iList K tl) (gTup K 2 (gCons (gName j) (gCons (gName k) gNil))) tYes te [j, k]) ρ ((xs.map g).map h) := by
  have key := xo_lc (te := te) (vs := [j, k]) (f := fun _ => true) (r := fun i => h (g (xs.getD i x0))) (ρt := fun i => ((wipeS ρ [j, k]).set j (.dt (f1 (xs.getD i x0)))).set k (.dt (f2 (xs.getD i x0)))) (xi_list hi) (by rw [List.length_map]; exact hn)
    (fun i hlt => by
      rw [List.length_map] at hlt
      have e : (xs.map fun x => PyData.tuple [f1 x, f2 x]).getD i .none = .tuple [f1 (xs.getD i x0), f2 (xs.getD i x0)] := by
        simp [List.getD_eq_getElem?_getD, List.getElem?_eq_getElem hlt]
      rw [e]
      exact xg_tup (n := 2) (xgs_cons (xg_name j) (xgs_cons (xg_name k) xgs_nil)) rfl) (fun i hlt => xt_yes) (fun i hlt _ => by
      rw [List.length_map] at hlt
      refine he _ ?_
      rw [List.getD_eq_getElem?_getD, List.getElem?_eq_getElem hlt]
      exact List.getElem_mem hlt)
  refine key.is ?_
  rw [madeD_map, List.length_map, ← map_range_get xs x0 g, List.map_map]
  rfl
/-- [te for i in range(n)] -/
theorem xo_lcR {β : Type} {tr : TA} {j : Nat} {n : Int} {g : Nat → β} {h : β → PyData} (hi : XA K tr ρ [.int n]) (hn : -100000 ≤ n ∧ n ≤ 50000)
    (he : ∀ i : Nat, (i : Int) < n → XD K te ((wipeS ρ [j]).set j (.dt (.int i))) (h (g i))) : XO K (tLc (iRng1 tr) (gName j) tYes te [j]) ρ (((List.range n.toNat).map g).map h) := by
  have key := xo_lc (te := te) (vs := [j]) (f := fun _ => true) (r := fun i => h (g i)) (ρt := fun i => (wipeS ρ [j]).set j (.dt (.int i))) (xi_rng1 hi ⟨hn.1, by omega⟩) (by omega)
    (fun i hlt => xg_name j) (fun i hlt => xt_yes) (fun i hlt _ => he i (by omega))
  refine key.is ?_
  rw [madeD_map, List.map_map]
  rfl
theorem rc_allM {bs : List Bool} {Z : List PyData} (hz : Z = bs.map .bool) : RDC K (rAll K) [.list Z] (.bool (bs.all id)) := hz ▸ rc_all
theorem xd_pickI {b : Bool} {x y : Int} (ha : XO K ta ρ [.int x, .int y]) (hb : XD K tb ρ (.int (if b then 1 else 0))) : XD K (tOp (rIxL K) ta tb) ρ (.int (if b then y else x)) :=
  (xd_pick ha hb).is (by cases b <;> rfl)
theorem set_same {i : Nat} {x : Sl} (h : ρ[i]? = some x) : ρ.set i x = ρ := by
  apply List.ext_getElem?
  intro k
  by_cases hk : i = k
  · subst hk
    rw [List.getElem?_set_self (List.getElem?_eq_some_iff.mp h).1, h]
  · rw [List.getElem?_set_ne hk]
/-- if test: x = e -/
theorem sd_ifset {i : Nat} {tt : TT} {u : TS} {b : Bool} {d0 d1 : PyData} {N : List Sl → Prop} {R : PyData → Prop} {B : Hp → Hp → Prop} (h : XT K tt ρ b) (h0 : ρ[i]? = some (.dt d0)) (h1 : b = true → XD K te ρ d1)
    (k : SD K B u (ρ.set i (.dt (if b then d1 else d0))) N R) : SD K B (tSeq (tIfS tt (tAsg te (gName i)) tNext) u) ρ N R := by
  refine sd_ifq h (fun hb => sd_setq (h1 hb) ?_) (fun hb => ?_)
  · rw [hb] at k; exact k
  · rw [hb] at k
    have e : ρ.set i (.dt (if false = true then d1 else d0)) = ρ := set_same h0
    rw [e] at k
    exact k
theorem sd_ifsetI {i : Nat} {tt : TT} {u : TS} {b : Bool} {x0 x1 : Int} {N : List Sl → Prop} {R : PyData → Prop} {B : Hp → Hp → Prop} (h : XT K tt ρ b) (h0 : ρ[i]? = some (.dt (.int x0))) (h1 : b = true → XD K te ρ (.int x1))
    (k : SD K B u (ρ.set i (.dt (.int (if b then x1 else x0)))) N R) : SD K B (tSeq (tIfS tt (tAsg te (gName i)) tNext) u) ρ N R :=
  sd_ifset h h0 h1 (by
    have e : (if b then PyData.int x1 else PyData.int x0) = PyData.int (if b then x1 else x0) := by cases b <;> rfl
    rw [e]; exact k)
/-! the script, or another list of the claim's: told by its values -/
theorem Env.seq {F0 H0 F H : Hp} {σ : L2.St} (E : Env K F0 H0 F H σ ρ) {i : Nat} {xs : List V} (h : ρ[i]? = some (.sq xs)) : ∃ a, σ[i]? = some (some (.ref a)) ∧ SqL K F a xs := by
  obtain ⟨s, h1, a, rfl, h2⟩ := E.ok i _ h
  exact ⟨a, h1, h2⟩
theorem xd_lenQ {i : Nat} {xs : List V} (h : ρ[i]? = some (.sq xs)) : XD K (tCB (rLenD K) (tCons (tVar i) tNil)) ρ (.int xs.length) := fun F0 H0 F H σ E Q q => by
  obtain ⟨a, h1, h2⟩ := E.seq h
  exact ⟨.ref a, h1, .ref a, xs.length, rfl, .inl ⟨xs, ex_l E.le h2, rfl⟩, q _ F H (Gr.refl E.le) (.int _)⟩
theorem xd_ixQ {i : Nat} {ns : List Int} {k : Int} (h : ρ[i]? = some (.sq (ns.map V.int))) (hb : XD K tb ρ (.int k)) (hk : 0 ≤ k ∧ k < ns.length) : XD K (tOp (rIxL K) (tVar i) tb) ρ (.int (ns.getD k.toNat 0)) := fun F0 H0 F H σ E Q q => by
  obtain ⟨a, h1, h2⟩ := E.seq h
  refine ⟨.ref a, h1, hb F0 H0 F H σ E _ fun v F1 H1 g d1 => ⟨a, ns.map V.int, k, .int (ns.getD k.toNat 0), rfl, dp_int d1, ex_l g.h (ex_l E.le h2), ?_, q _ F1 H1 g (.int _)⟩⟩
  have hl : k.toNat < ns.length := by omega
  rw [atI_in (V.int 0) (by rw [List.length_map]; exact hk)]
  simp [List.getD_eq_getElem?_getD, List.getElem?_eq_getElem hl]
def spQ (K : PySem.W.Frag) (P : List Int → PyData → Prop) : Sp := fun vs H Q _ => vs.length = 1 ∧ ∃ F a ns d, vs = [.ref a] ∧ Ex F H ∧ SqL K F a (ns.map V.int) ∧ P ns d ∧ ∀ v F' H', Gr F H F' H' → Dq K F' v d → Q v H'
theorem xd_callQ {i : Nat} {ns : List Int} {P : List Int → PyData → Prop} (h : ρ[i]? = some (.sq (ns.map V.int))) (hP : P ns d) : XD K (tCall (spQ K P) [] E0 (tCons (tVar i) tNil)) ρ d := fun F0 H0 F H σ E Q q => by
  obtain ⟨a, h1, h2⟩ := E.seq h
  exact ⟨.ref a, h1, rfl, F, a, ns, d, rfl, E.le, h2, hP, q⟩
theorem env_seq {F H : Hp} {N : List Str} {a : Addr} {xs : List V} (le : Ex F H) (h : SqL K F a xs) (hn : 1 ≤ N.length) : Env K F H F H (L2.start N [.ref a]) (.sq xs :: List.replicate (N.length - 1) .no) := by
  refine ⟨Gr.refl le, ?_, fun i x hx => ?_, fun i j p di dj _ hi => ?_⟩
  · unfold L2.start; simp
  · unfold L2.start
    cases i with
    | zero => cases hx; exact ⟨some (.ref a), rfl, a, rfl, h⟩
    | succ i =>
      rw [List.getElem?_cons_succ] at hx
      obtain ⟨h1, h2⟩ := List.getElem?_eq_some_iff.mp hx
      rw [List.getElem_replicate] at h2
      subst h2
      rw [List.length_replicate] at h1
      refine ⟨none, ?_, trivial⟩
      show (some (V.ref a) :: List.replicate (N.length - 1) none)[i + 1]? = _
      rw [List.getElem?_cons_succ, List.getElem?_replicate, if_pos h1]
  · exfalso
    cases i with
    | zero => cases hi
    | succ i =>
      rw [List.getElem?_cons_succ] at hi
      obtain ⟨_, h2⟩ := List.getElem?_eq_some_iff.mp hi
      rw [List.getElem_replicate] at h2
      cases h2
theorem body_Q {t : TS} {P : List Int → PyData → Prop} {N : List Str} (hN : 1 ≤ N.length) {vs : List V} {H : Hp} {Q : VK} {E : XK} (h : spQ K P vs H Q E)
    (hb : ∀ ns d, P ns d → SD K (fun _ _ => True) t (.sq (ns.map V.int) :: List.replicate (N.length - 1) .no) (fun _ => False) (fun r => r = d)) : t { nx := fun _ H' => Q .non H', rt := Q } (L2.start N vs) H := by
  obtain ⟨_, F, a, ns, d, rfl, le, hs, hP, q⟩ := h
  refine hb ns d hP F H F H _ _ trivial (env_seq le hs hN) (fun _ _ _ _ z _ _ => z.elim) (fun F' H' v r z g dr => ?_)
  subst z
  exact q v F' H' g dr
end
end DD

set_option Elab.async false
set_option linter.all false
set_option maxRecDepth 100000
set_option maxHeartbeats 4000000
namespace DD
open PySem PySem.Spec PyProof.Rows L2
open Evl (Ex ex_l ex_t ex_rd)
/-! a chain of three comparisons -/
def tCh3 (r1 r2 r3 : R2) (ta tb tc td : TE) : TE := fun σ H Q => ta σ H fun x H1 => tb σ H1 fun y H2 => r1 x y H2 fun z H3 => ∃ k, z = .bl k ∧
  (if k = true then tc σ H3 fun v H4 => r2 y v H4 fun z' H5 => ∃ k', z' = .bl k' ∧ (if k' = true then td σ H5 fun u H6 => r3 v u H6 Q else Q (.bl false) H5) else Q (.bl false) H3)
theorem pe_ch3 {X : Cx} {a b c d : Expr} {pos : Pos} {ta tb tc td : TE} {o1 o2 o3 : CmpOp} {r1 r2 r3 : R2} (p1 : OpR X (compareOp o1) r1) (p2 : OpR X (compareOp o2) r2) (p3 : OpR X (compareOp o3) r3)
    (ha : PE X a ta) (hb : PE X b tb) (hc : PE X c tc) (hd : PE X d td) (hm : lastMarks [o1, o2, o3] [b, c, d] = false := by with_unfolding_all rfl) : PE X (.Compare a [o1, o2, o3] [b, c, d] pos) (tCh3 r1 r2 r3 ta tb tc td) := by
  constructor
  intro pins s σ H Q I h
  refine Compare_chain (thn (ha.run pins s σ H _ I h) fun va sa ⟨xa, Ha, Ia, ra, qa⟩ => ?_) hm
  refine chain_link (thn (hb.run pins sa σ Ha _ Ia qa) fun vb sb ⟨xb, Hb, Ib, rb, qb⟩ => thn (p1 pins sb σ Hb xa xb va vb _ Ib ra rb qb) fun e1 s1 ⟨z1, G1, J1, t1, k1, w1, q1⟩ => ?_)
  subst w1
  cases t1
  apply wpAny_truthy_bool
  cases k1 with
  | false => exact ite_ff ⟨.bl false, G1, J1, rfl, q1⟩
  | true =>
    refine ite_tt (chain_link (thn (hc.run pins s1 σ G1 _ J1 q1) fun vc sc ⟨xc, Hc, Ic, rc, qc⟩ => thn (p2 pins sc σ Hc xb xc vb vc _ Ic rb rc qc) fun e2 s2 ⟨z2, G2, J2, t2, k2, w2, q2⟩ => ?_))
    subst w2
    cases t2
    apply wpAny_truthy_bool
    cases k2 with
    | false => exact ite_ff ⟨.bl false, G2, J2, rfl, q2⟩
    | true => exact ite_tt (chain_last (thn (hd.run pins s2 σ G2 _ J2 q2) fun vd sd ⟨xd, Hd, Id, rd, qd⟩ => p3 pins sd σ Hd xc xd vc vd Q Id rc rd qd))
section
variable {K : PySem.W.Frag} {ρ : List Sl} {ta tb tc td te : TE} {d e : PyData} {ds es : List PyData}
theorem xd_ch3 {p1 p2 p3 : Int → Int → Bool} {i j k l : Int} (ha : XD K ta ρ (.int i)) (hb : XD K tb ρ (.int j)) (hc : XD K tc ρ (.int k)) (hd : XD K td ρ (.int l)) :
    XD K (tCh3 (rI0 fun i j => .bl (p1 i j)) (rI0 fun i j => .bl (p2 i j)) (rI0 fun i j => .bl (p3 i j)) ta tb tc td) ρ (.bool (p1 i j && p2 j k && p3 k l)) := fun F0 H0 F H σ E Q q =>
  ha F0 H0 F H σ E _ fun x F1 H1 g1 d1 => hb F0 H0 F1 H1 σ (E.grow g1) _ fun y F2 H2 g2 d2 => ⟨i, j, dp_int d1, dp_int d2, p1 i j, rfl, by
    cases h1 : p1 i j with
    | false => exact q _ F2 H2 (g1.trans g2) (by rw [h1]; exact .bl _)
    | true =>
      refine hc F0 H0 F2 H2 σ ((E.grow g1).grow g2) _ fun z F3 H3 g3 d3 => ⟨j, k, dp_int d2, dp_int d3, p2 j k, rfl, ?_⟩
      cases h2 : p2 j k with
      | false => exact q _ F3 H3 ((g1.trans g2).trans g3) (by rw [h1, h2]; exact .bl _)
      | true => exact hd F0 H0 F3 H3 σ (((E.grow g1).grow g2).grow g3) _ fun u F4 H4 g4 d4 => ⟨k, l, dp_int d3, dp_int d4, q _ F4 H4 (((g1.trans g2).trans g3).trans g4) (by rw [h1, h2]; exact .bl _)⟩⟩
end
/-! texts glued -/
def catAll : List Str → Str
  | [] => Str.empty
  | x :: xs => x ++ catAll xs
theorem app_cps (x y : Str) : (x ++ y).cps = x.cps ++ y.cps := rfl
theorem app_assoc (x y z : Str) : (x ++ y) ++ z = x ++ (y ++ z) := by
  show (⟨(x ++ y).cps ++ z.cps⟩ : Str) = ⟨x.cps ++ (y ++ z).cps⟩
  rw [app_cps, app_cps, Array.append_assoc]
theorem empty_app (x : Str) : Str.empty ++ x = x := by
  show (⟨_⟩ : Str) = _
  obtain ⟨c⟩ := x
  show (⟨#[] ++ c⟩ : Str) = _
  rw [Array.empty_append]
theorem app_empty (x : Str) : x ++ Str.empty = x := by
  show (⟨_⟩ : Str) = _
  obtain ⟨c⟩ := x
  show (⟨c ++ #[]⟩ : Str) = _
  rw [Array.append_empty]
theorem len_app (x y : Str) : (x ++ y).length = x.length + y.length := by
  show (x ++ y).cps.size = _
  rw [app_cps, Array.size_append]
  rfl
theorem catAll_fold (xs : List Str) : ∀ acc : Array Nat, xs.foldl (fun acc p => acc ++ (Str.empty).cps ++ p.cps) acc = acc ++ (catAll xs).cps := by
  induction xs with
  | nil => intro acc; show acc = acc ++ #[]; rw [Array.append_empty]
  | cons x xs ih =>
    intro acc
    rw [List.foldl_cons, ih]
    show acc ++ #[] ++ x.cps ++ (catAll xs).cps = acc ++ (x.cps ++ (catAll xs).cps)
    rw [Array.append_empty, Array.append_assoc]
theorem join_cat (xs : List Str) : Txt.join Str.empty xs = catAll xs := by
  cases xs with
  | nil => rfl
  | cons x xs =>
    show (⟨(xs.foldl (fun acc p => acc ++ (Str.empty).cps ++ p.cps) x.cps)⟩ : Str) = _
    rw [catAll_fold]
    rfl
theorem catAll_len (n : Nat) : ∀ xs : List Str, (∀ x ∈ xs, x.length ≤ n) → (catAll xs).length ≤ xs.length * n
  | [], _ => Nat.le_of_eq (by rw [List.length_nil, Nat.zero_mul]; rfl)
  | x :: xs, h => by
    show (x ++ catAll xs).length ≤ _
    have h1 := h x List.mem_cons_self
    have h2 := catAll_len n xs fun y hy => h y (List.mem_cons_of_mem _ hy)
    rw [len_app, List.length_cons, Nat.succ_mul]
    omega
theorem sum_le (n : Nat) : ∀ xs : List Str, (∀ x ∈ xs, x.length ≤ n) → (xs.map (·.length)).sum ≤ xs.length * n
  | [], _ => by simp
  | x :: xs, h => by
    have h1 := h x List.mem_cons_self
    have h2 := sum_le n xs fun y hy => h y (List.mem_cons_of_mem _ hy)
    rw [List.map_cons, List.sum_cons, List.length_cons, Nat.succ_mul]
    omega
/-- ''.join(xs) -/
theorem xd_join0 {K : PySem.W.Frag} {ρ : List Sl} {ta te : TE} {ys : List Str} (n : Nat) (h1 : XD K ta ρ (.str Str.empty)) (h2 : XD K te ρ (.list (ys.map .str))) (hy : ∀ y ∈ ys, y.length ≤ n) (hz : ys.length * n ≤ 16777216) :
    XD K (tBM K "str" (rJoinD K) ta (tCons te tNil)) ρ (.str (catAll ys)) :=
  (xd_join h1 h2 (by
    have := sum_le n ys hy
    show (ys.map (·.length)).sum + ys.length * 0 ≤ 16777216
    omega)).is (by rw [join_cat])
end DD

set_option Elab.async false
set_option linter.all false
set_option maxRecDepth 100000
set_option maxHeartbeats 4000000
namespace DD
open PySem PySem.Spec PyProof.Rows L2
open Evl (Ex ex_l ex_t ex_rd)
/-! ### the law's own def, called by the claim alone: nothing is being shown there, so repr is at hand -/
/-- what a def does where the claim calls it -/
def AtTop (Pg : Program) (w : World) (K : PySem.W.Frag) (mg : Str → Option Value) (g : Heap) (f : Addr) (fd : FuncData) (x : Str) (sp : Sp) : Prop :=
  ∀ (s : Shared) (H : Hp) (u : Value) (v : V) (Q : VK), Env0 Pg w K mg g callerA [] s H → BindsTo s fd ⟨[u], []⟩ [(x, u)] → RelV v u → sp [v] H Q E0 →
    codeAny (model Pg w) callerA (.call (.ref f) ⟨[u], []⟩) (CR CX0 [] Pg w H s Q E0) s
theorem atTop_of {Pg : Program} {w : World} {K : PySem.W.Frag} {mg : Str → Option Value} {g : Heap} {x nm : Str} {st : Stmt} {f : Addr} {fd : FuncData} {N : List Str} {sp : Sp} {k : Nat} (F : FnP K nm st f fd) (S : FnScope N [x] (defScope st)) (room : Room (k + 1) callerA)
    (body : ∀ (cdv : Value) (s : Shared) (H : Hp) (vs : List V) (Q : VK), Room k (callerA.deeper (envOfC nm (defScope st) s.heap.objs.size f cdv)) → sp vs H Q E0 →
      ∃ t, PSs (cxOf CX0 Pg w K mg g N nm (defScope st) f cdv callerA [] s H E0) (defBody st) t ∧ t { nx := fun _ H' => Q .non H', rt := Q } (L2.start N vs) H) : AtTop Pg w K mg g f fd x sp := by
  intro s H u v Q e0 hb rv hsp
  obtain ⟨oc, od, dV, kV, doc, pm, an, cdv, ct, osl, rfl, lk, hcd, _, _⟩ := F.ex
  have kin := e0.mod.kin.keeps fun b o z => (e0.bs b o z).1
  have nolim := e0.mod.nolimit.keeps fun b o z => (e0.bs b o z).1
  have kinds : ∀ y ∈ [(x, u)], (defScope st).names.lookup y.1 = some .local ∨ ((defScope st).names.lookup y.1 = some .cell ∧ ((cellsFrom (s.heap.objs.size + 1) (defScope st).names []).lookup y.1).isSome = true) := fun y hy => by
    have hy' : y = (x, u) := by simpa using hy
    rw [hy']
    exact (S.par x (by simp)).imp id fun z => ⟨z, PySem.W.cellsFrom_some _ _ _ (.inl z)⟩
  refine codeAny_call_function room.depth (kin _ _ lk) rfl S.co S.gen rfl (PySem.W.codeRec_of kin hcd) (hb _ _ _ _ (wpAny_newFunctionEnv_cells S.kind kinds fun env he s1 y => ?_))
  subst he
  refine ⟨nolim.keeps y.toInCall.keep, codeAny_func ?_⟩
  obtain ⟨t, ht, ok⟩ := body cdv s H [v] Q (room.deeper _) hsp
  have J0 := inv_start (CX := CX0) (E := E0) (us := [u]) (vs := [v]) S room.hd e0 rfl (.cons rv .nil) y
  refine wpAny_mono (ht.run [] s1 _ H _ J0 ok) (fun fl s' z => ?_) fun _ _ z => z
  cases fl with
  | ret r =>
    obtain ⟨a, σ', H', J, ra, q⟩ := z
    exact ⟨a, H', J.os, J.bare, J.base, J.hok, ra, q⟩
  | next =>
    obtain ⟨σ', H', J, q⟩ := z
    exact ⟨.non, H', J.os, J.bare, J.base, J.hok, rfl, q⟩
  | brk => obtain ⟨_, _, _, q⟩ := z; exact q.elim
  | cont => obtain ⟨_, _, _, q⟩ := z; exact q.elim
/-- the script as the law finds it: locked, or an object of the module -/
theorem top_call {Pg : Program} {w : World} {K : PySem.W.Frag} {mg mb : Str → Option Value} {f a : Addr} {fd : FuncData} {x : Str} {sp : Sp} {s : Shared} {us : List Value} {ns : List Int}
    (kin : K.In s.heap) (ng : s.heap.Ns mainGlobals mg) (nb : s.heap.Ns builtinsNs mb) (bb : ∀ y : Str, y ≠ "__name__" → mb y = bootBuiltins y) (nl : s.heap.NoLimit) (gens : s.gens = #[])
    (ha : s.heap.get? a = some { cls := .type "list", data := .seq us.toArray }) (hi : IntsAre us ns) (hl : ns.length ≤ sizeLine) (C : ∀ g : Heap, K.In g → g.Ns mainGlobals mg → AtTop Pg w K mg g f fd x sp) (hb : BindsTo s fd ⟨[.ref a], []⟩ [(x, .ref a)])
    (hsp : ∀ H : Hp, SqL K H a (ns.map V.int) → sp [.ref a] H (fun v _ => v = .bl true) E0) :
    codeAny (model Pg w) callerA (.call (.ref f) ⟨[.ref a], []⟩) (fun r s' => r = .ok (.ret (.bool true)) ∧ OldK s.heap s'.heap ∧ s'.os = s.os ∧ AllBare s'.gens) s := by
  have rel := vals_ints hi
  have key : ∀ H : Hp, (∀ b, H b = none ∨ (b = a ∧ ∃ o xs, H b = some (.frz o (.lst xs)))) → SqL K H a (ns.map V.int) → HOk Pg w H s.heap → (H a ≠ none → K.lookup a = none) →
      codeAny (model Pg w) callerA (.call (.ref f) ⟨[.ref a], []⟩) (fun r s' => r = .ok (.ret (.bool true)) ∧ OldK s.heap s'.heap ∧ s'.os = s.os ∧ AllBare s'.gens) s := by
    intro H only sq ok apart
    have keepD : ∀ {b : Addr} {m : Str → Option Value}, s.heap.Ns b m → (hidT s.heap H).Ns b m := fun {b m} n => by
      obtain ⟨o, es, ep, e, d, r⟩ := n
      refine ⟨o, es, ep, hidT_get e ?_, d, r⟩
      rcases only b with z | ⟨rfl, _⟩
      · exact z
      · rw [ha] at e
        cases e
        cases d
    have keepK : K.In (hidT s.heap H) := fun b o e => by
      refine hidT_get (kin b o e) ?_
      rcases only b with z | ⟨rfl, o', xs, z⟩
      · exact z
      · rw [apart (by rw [z]; exact nofun)] at e
        cases e
    have e0 : Env0 Pg w K mg (hidT s.heap H) callerA [] s H := by
      refine ⟨rfl, ⟨keepK, keepD ng, ⟨mb, keepD nb, bb⟩, ?_⟩, fun b o e => of_hidT e, Nat.le_of_eq (hidT_size _ _), trivial, fun b z => ?_, ok, .of_eq gens⟩
      · obtain ⟨mc, z1, z2⟩ := nl
        exact ⟨mc, keepD z1, z2⟩
      · cases z
    refine codeAny_mono (C _ keepK (keepD ng) s H (.ref a) (.ref a) _ e0 hb rfl (hsp H sq)) fun r s' z => ?_
    match r, z with
    | .ok (.ret u), ⟨v, H', os, bare, un, ok', rv, q⟩ =>
      cases (show v = .bl true from q)
      cases (show u = Value.bool true from rv)
      refine ⟨rfl, OldK.of_keep fun b o e => ?_, os, bare⟩
      rcases only b with z | ⟨rfl, o', xs, z⟩
      · exact un.keep b o e z (fun y => by cases y) (fun y => by cases y)
      · have p1 := (ok b _ z).1
        have p2 := (ok' b _ (un.frzs b o' _ z)).1
        rw [e] at p1
        cases p1
        exact p2
  cases hk : K.lookup a with
  | some o =>
    have e := kin a o hk
    rw [ha] at e
    cases e
    exact key (fun _ => none) (fun _ => .inl rfl) (.inr ⟨_, us.toArray, _, hk, rfl, rfl, rfl, by rw [List.size_toArray, hi.length]; exact hl, by simpa using rel⟩) (fun b o z => by cases z) fun z => absurd rfl z
  | none =>
    have at_a : upd (fun _ => none) a (.frz { cls := .type "list", data := .seq us.toArray } (.lst (ns.map V.int))) a = some (.frz _ _) := upd_same
    refine key (upd (fun _ => none) a (.frz { cls := .type "list", data := .seq us.toArray } (.lst (ns.map V.int)))) (fun b => ?_) (.inl (.inr ⟨_, at_a⟩)) (fun b o z => ?_) fun _ => hk
    · by_cases q : b = a
      · subst q; exact .inr ⟨rfl, _, _, at_a⟩
      · exact .inl (upd_ne q)
    · by_cases q : b = a
      · subst q
        rw [upd_same] at z
        cases z
        exact ⟨ha, by rw [List.length_map]; exact hl, us, _, rel, ha⟩
      · rw [upd_ne q] at z
        cases z
end DD

set_option Elab.async false
set_option linter.all false
set_option maxRecDepth 100000
set_option maxHeartbeats 4000000
namespace DD
open PySem PySem.Spec PyProof.Rows L2
open Evl (Ex ex_l ex_t ex_rd)
/-! ### repr of data -/
def rReprD (K : PySem.W.Frag) : List V → Hp → VK → Prop := fun xs H Q => ∃ a d, xs = [.ref a] ∧ Dp K H (.ref a) d ∧ d.showable = true ∧ d.hasDict = false ∧ d.depth ≤ 60 ∧ d.shown.length ≤ sizeLine ∧ Q (.str d.shown) H
theorem call_reprD {X : Cx} (hg : X.A.guards = some []) (hu : X.A.units + 64 < cLine) : CallR X (.builtin "repr") (rReprD X.K) := by
  intro pins s σ H xs us Q I r h
  obtain ⟨a, d, rfl, hd, h1, h2, h3, h4, q⟩ := h
  cases r with
  | cons ra rt =>
    cases rt
    cases (show _ = Value.ref a from ra)
    obtain ⟨as, rd⟩ := Dp.reads I d _ _ hd rfl
    exact repr_of_reads' (h₀ := s.heap) rd h1 (fun z => by rw [h2] at z; cases z) hg (by omega) (fun _ _ e => e) (fun h' u tk hk => ⟨.str d.shown, H, I.kept hk, ⟨u, rfl⟩, q⟩) h4
/-! how long it gets -/
mutual
def wt : PyData → Nat
  | .none => 4
  | .bool _ => 5
  | .int _ => 32
  | .str x => 10 * x.length + 2
  | .list xs => wtAll xs + 2
  | .tuple xs => wtAll xs + 3
  | .dict _ => 0
def wtAll : List PyData → Nat
  | [] => 0
  | x :: xs => wt x + 2 + wtAll xs
end
mutual
/-- ints below 2^30, texts of plain signs, no dict -/
def tame : PyData → Bool
  | .none => true
  | .bool _ => true
  | .int i => decide (i.natAbs < 2 ^ 30)
  | .str x => x.cps.toList.all fun c => decide (c < 1114112)
  | .list xs => tameAll xs
  | .tuple xs => tameAll xs
  | .dict _ => false
def tameAll : List PyData → Bool
  | [] => true
  | x :: xs => tame x && tameAll xs
end
theorem textFrom_up : ∀ (ts : List Str) (k : Nat) (acc : Str), (textFrom k acc ts).length ≤ acc.length + (ts.map fun t => t.length + 2).sum
  | [], k, acc => by simp [textFrom]
  | t :: r, k, acc => by
    have h := textFrom_up r (k + 1) (acc ++ (if k > 0 then ", " else "" : String) ++ t)
    have e : (acc ++ (if k > 0 then ", " else "" : String) ++ t).length ≤ acc.length + 2 + t.length := by
      rw [len_app, len_app]
      have : ((if k > 0 then ", " else "" : String) : Str).length ≤ 2 := by split <;> decide +kernel
      omega
    rw [List.map_cons, List.sum_cons]
    show (textFrom (k + 1) (acc ++ (if k > 0 then ", " else "" : String) ++ t) r).length ≤ _
    omega
theorem piled_sum : ∀ ts : List Str, piled ts = (ts.map fun t => t.length + 2).sum
  | [] => by simp [piled]
  | t :: r => by rw [piled_cons, piled_sum r, List.map_cons, List.sum_cons]

theorem log2_30 {n : Nat} (h : n < 2 ^ 30) : n.log2 < 30 := by
  by_cases h0 : n = 0
  · rw [h0]; decide
  · exact (Nat.log2_lt h0).mpr h
theorem int_text (i : Int) (h : i.natAbs < 2 ^ 30) : ((toString i : String) : Str).length ≤ 32 := by
  have := int_text_length_le (a := i) (k := 30) (by decide) (log2_30 h)
  show (Str.ofString (toString i)).length ≤ 32
  rw [PySem.ofString_length]
  omega
mutual
theorem shown_le : ∀ d : PyData, tame d = true → d.shown.length ≤ wt d
  | .none, _ => by decide +kernel
  | .bool b, _ => by cases b <;> decide +kernel
  | .int i, h => int_text i (of_decide_eq_true h)
  | .str x, h => by
    refine StrLaws.reprText_len x fun c hc => ?_
    have := List.all_eq_true.mp (show (x.cps.toList.all fun c => decide (c < 1114112)) = true from h) c hc
    have := of_decide_eq_true this
    omega
  | .list xs, h => by
    have := shownAll_le xs h
    show (listText (PyData.shownAll xs)).length ≤ wtAll xs + 2
    unfold listText
    have h1 := textFrom_up (PyData.shownAll xs) 0 "["
    rw [len_app]
    have e1 : ("[" : Str).length = 1 := by decide +kernel
    have e2 : ("]" : Str).length = 1 := by decide +kernel
    omega
  | .tuple xs, h => by
    have := shownAll_le xs h
    show (tupleText (PyData.shownAll xs)).length ≤ wtAll xs + 3
    unfold tupleText
    have e1 : ("(" : Str).length = 1 := by decide +kernel
    have e2 : ((if (PyData.shownAll xs).length == 1 then ",)" else ")" : String) : Str).length ≤ 2 := by split <;> decide +kernel
    have h1 : (Str.join ", " (PyData.shownAll xs)).length ≤ ((PyData.shownAll xs).map fun t => t.length + 2).sum := by
      cases hx : PyData.shownAll xs with
      | nil => decide +kernel
      | cons t r =>
        have := join_length_add (t :: r) (by simp)
        rw [piled_sum] at this
        omega
    rw [len_app, len_app]
    omega
  | .dict _, h => by cases h
theorem shownAll_le : ∀ xs : List PyData, tameAll xs = true → ((PyData.shownAll xs).map fun t => t.length + 2).sum ≤ wtAll xs
  | [], _ => Nat.le_refl _
  | x :: xs, h => by
    have h' := Bool.and_eq_true_iff.mp (show (tame x && tameAll xs) = true from h)
    have h1 := shown_le x h'.1
    have h2 := shownAll_le xs h'.2
    show ((x.shown :: PyData.shownAll xs).map fun t => t.length + 2).sum ≤ wt x + 2 + wtAll xs
    rw [List.map_cons, List.sum_cons]
    omega
end
mutual
theorem tame_showable : ∀ d : PyData, tame d = true → d.showable = true ∧ d.hasDict = false ∧ d.canLay0 = true
  | .none, _ => ⟨rfl, rfl, rfl⟩
  | .bool b, _ => ⟨rfl, rfl, rfl⟩
  | .int i, h => by
    refine ⟨?_, rfl, rfl⟩
    have h' : i.natAbs < 2 ^ 30 := of_decide_eq_true h
    show decide (i.natAbs.log2 < 1920) = true
    refine decide_eq_true ?_
    exact Nat.lt_trans (log2_30 h') (by decide)
  | .str x, h => by
    refine ⟨rfl, rfl, ?_⟩
    show x.cps.all (· < 0x110000) = true
    rw [← Array.all_toList]
    exact h
  | .list xs, h => tameAll_showable xs h
  | .tuple xs, h => tameAll_showable xs h
  | .dict _, h => by cases h
theorem tameAll_showable : ∀ xs : List PyData, tameAll xs = true → PyData.showableAll xs = true ∧ PyData.hasDictAll xs = false ∧ PyData.canLayAll0 xs = true
  | [], _ => ⟨rfl, rfl, rfl⟩
  | x :: xs, h => by
    have h' := Bool.and_eq_true_iff.mp (show (tame x && tameAll xs) = true from h)
    obtain ⟨a1, a2, a3⟩ := tame_showable x h'.1
    obtain ⟨b1, b2, b3⟩ := tameAll_showable xs h'.2
    refine ⟨?_, ?_, ?_⟩
    · show (x.showable && PyData.showableAll xs) = true; rw [a1, b1]; rfl
    · show (x.hasDict || PyData.hasDictAll xs) = false; rw [a2, b2]; rfl
    · show (x.canLay0 && PyData.canLayAll0 xs) = true; rw [a3, b3]; rfl
end
/-! like things -/
theorem tameAll_map {α : Type} {f : α → PyData} : ∀ {xs : List α}, (∀ x ∈ xs, tame (f x) = true) → tameAll (xs.map f) = true
  | [], _ => rfl
  | x :: xs, h => by
    show (tame (f x) && tameAll (xs.map f)) = true
    rw [h x List.mem_cons_self, tameAll_map fun y hy => h y (List.mem_cons_of_mem _ hy)]
    rfl
theorem wtAll_map {α : Type} {f : α → PyData} {n : Nat} : ∀ {xs : List α}, (∀ x ∈ xs, wt (f x) ≤ n) → wtAll (xs.map f) ≤ xs.length * (n + 2)
  | [], _ => Nat.zero_le _
  | x :: xs, h => by
    have h1 := h x List.mem_cons_self
    have h2 := wtAll_map fun y hy => h y (List.mem_cons_of_mem _ hy)
    show wt (f x) + 2 + wtAll (xs.map f) ≤ _
    rw [List.length_cons, Nat.succ_mul]
    omega
theorem depthAll_map {α : Type} {f : α → PyData} {n : Nat} : ∀ {xs : List α}, (∀ x ∈ xs, (f x).depth ≤ n) → PyData.depthAll (xs.map f) ≤ n
  | [], _ => Nat.zero_le _
  | x :: xs, h => by
    show max (f x).depth (PyData.depthAll (xs.map f)) ≤ n
    exact Nat.max_le.mpr ⟨h x List.mem_cons_self, depthAll_map fun y hy => h y (List.mem_cons_of_mem _ hy)⟩
section
variable {K : PySem.W.Frag} {ρ : List Sl} {ta tb te : TE} {d e : PyData} {ds es : List PyData}
/-- repr(x), x a list or a tuple -/
theorem xd_repr (h : XD K te ρ d) (hr : is_list d = true ∨ is_tuple d = true) (ht : tame d = true) (hd : d.depth ≤ 60) (hw : wt d ≤ 16000000) : XD K (tCB (rReprD K) (tCons te tNil)) ρ (.str d.shown) := fun F0 H0 F H σ E Q q =>
  h F0 H0 F H σ E _ fun v F1 H1 g d1 => by
    have hv : ∃ a, v = .ref a := by
      cases d1 with
      | lst _ _ => exact ⟨_, rfl⟩
      | tup _ _ => exact ⟨_, rfl⟩
      | _ => rcases hr with z | z <;> cases z
    obtain ⟨a, rfl⟩ := hv
    obtain ⟨s1, s2, _⟩ := tame_showable d ht
    exact ⟨a, d, rfl, dq_dp _ _ (dp_mono g.le _ _ d1), s1, s2, hd, Nat.le_trans (shown_le d ht) (Nat.le_trans hw (by decide)), q _ F1 H1 g (.str _)⟩
theorem shaped_of (ht : tame d = true) (hd : d.depth ≤ 60) : SeqAt.shaped d = true := by
  unfold SeqAt.shaped
  rw [(tame_showable d ht).2.2, Bool.true_and]
  exact decide_eq_true (by omega)
/-- == of two that are the same -/
theorem eqv_same (ht : tame d = true) : PyData.eqv d d = true := SeqAt.eqv_refl d (tame_showable d ht).2.2
end
/-! ### the end of a law -/
theorem walk_top {l : PySem.W.OpenLaw} {n : Nat} {q : Program} {loose : List Str} {XP : (Str → Option Value) → Heap → Prop} {YP : World → Heap → Prop} {d : DefRec} {x : Str} (hn : l.most = some n) (hz : n ≤ sizeLine) (hdf : d.params.defaults = [])
    (F : ∀ (w : World) (mg : Str → Option Value) (f : Addr) (h : Heap), YP w h → h.Ns mainGlobals mg → mg d.name = some (.ref f) → ∃ (K : PySem.W.Frag) (fd : FuncData) (sp : Sp), K.In h ∧ (∀ (s : Shared) (u : Value), BindsTo s fd ⟨[u], []⟩ [(x, u)]) ∧
      (∀ (H : Hp) (a : Addr) (ns : List Int), ns.length ≤ n → SqL K H a (ns.map V.int) → sp [.ref a] H (fun v _ => v = .bl true) E0) ∧ ∀ g : Heap, K.In g → g.Ns mainGlobals mg → AtTop l.prog w K mg g f fd x sp) :
    PySem.W.WalkO q loose XP YP l.row.toRowW d [] (fun f vs => PySem.call f vs) := by
  apply Att.attach_call hn hdf
  intro w s₀ s1 mg mb f o pm cd doc a us ns G Y _ _ _ hm ha hi hl hg
  obtain ⟨K, fd, sp, kin, hb, hs, hC⟩ := F w mg f _ Y G.T.g hm
  exact top_call kin G.T.g G.T.b G.T.builtins G.T.nolimit hg ha hi (Nat.le_trans hl hz) hC (hb _ _) fun H sq => hs H a ns hl sq
end DD

set_option Elab.async false
set_option linter.all false
set_option maxRecDepth 100000
set_option maxHeartbeats 4000000
namespace DD
open PySem PySem.Spec PyProof.Rows L2
open Evl (Ex ex_l ex_t ex_rd)
/-! ### errors of the program: a class below a class over ValueError whose __init__ keeps `at` -/
def oexB (K : PySem.W.Frag) (C : Addr) : Bool := match K.lookup C with
  | some ⟨.type t, _, .cls cd, sl⟩ => t == "type" && match cd.mro, sl.toList with
    | .ref D :: bm, [_, _, _, _, some (.builtin n), _] => D == C && (n == "ValueError.__new__" && (!cd.hasDel && (cd.hasDict && PySem.HandSPX.refsVE bm)))
    | _, _ => false
  | _ => false
theorem oexB_ok {K : PySem.W.Frag} {C : Addr} (h : oexB K C = true) : ∃ nm q N bs bm sn sub ab col dd k0 k1 k2 k3 k5, K.lookup C = some (excClassObj nm q C N bs bm true sn sub ab col dd k0 k1 k2 k3 k5 "ValueError.__new__") ∧ PySem.HandSPX.refsVE bm = true := by
  unfold oexB at h
  split at h
  · rename_i t dd cd sl look
    rw [Bool.and_eq_true, beq_iff_eq] at h
    obtain ⟨rfl, h⟩ := h
    split at h
    · rename_i D bm k0 k1 k2 k3 n k5 em es
      simp only [Bool.and_eq_true, beq_iff_eq, Bool.not_eq_true'] at h
      obtain ⟨rfl, rfl, hdel, hdict, hm⟩ := h
      obtain ⟨nm, bs, mro, ns, qn, hd, sn, sub, ab, col, del⟩ := cd
      simp only at em hdel hdict
      subst em hdel hdict
      obtain ⟨l⟩ := sl
      simp only at es
      subst es
      exact ⟨nm, qn, ns, bs, bm, sn, sub, ab, col, dd, k0, k1, k2, k3, k5, look, hm⟩
    · cases h
  · cases h
/-- all that is asked of such a class: b the one that has the __init__ -/
def errB (K : PySem.W.Frag) (x b : Str) : Bool := oexB K (He.ga K x) && (He.eqO (PySem.W.findIn K (.ref (He.ga K x)) "__setattr__") (some (some (.builtin "object.__setattr__"))) && (decide (PySem.W.subIn K (.ref (He.ga K x)) (.type "BaseException") = some true) &&
  (decide (PySem.W.typeIn K (.ref (He.ga K x)) = some (.type "type")) && (PySem.W.keepIn K (.ref (He.ga K x)) && (He.eqO (PySem.W.findIn K (.ref (He.ga K x)) "__init__") (some (some (.ref (He.ma K (He.ga K b) "__init__")))) &&
  (decide (PySem.W.typeIn K (.ref (He.ma K (He.ga K b) "__init__")) = some (.type "function")) && (He.eqO (PySem.W.findIn K (.ref (He.ga K x)) "at") (some none) && xfB K (He.ga K x))))))))
structure ErrC (K : PySem.W.Frag) (C fI : Addr) : Prop where
  ox : OexC K C
  ini : PySem.W.findIn K (.ref C) "__init__" = some (some (.ref fI))
  tyI : PySem.W.typeIn K (.ref fI) = some (.type "function")
  noAt : PySem.W.findIn K (.ref C) "at" = some none
  xf : XfC K C
theorem errB_ok {K : PySem.W.Frag} {x b : Str} (h : errB K x b = true) : ErrC K (He.ga K x) (He.ma K (He.ga K b) "__init__") := by
  unfold errB at h
  simp only [Bool.and_eq_true, decide_eq_true_eq] at h
  obtain ⟨h1, h2, h3, h4, h5, h6, h7, h8, h9⟩ := h
  exact ⟨⟨oexB_ok h1, He.eqO_ok h2, h3, h4, h5⟩, He.eqO_ok h6, h7, He.eqO_ok h8, xfB_ok h9⟩
/-- __init__(self, at) -/
def spErrI (K : PySem.W.Frag) : Sp := fun vs H Q _ => ∃ (a C : Addr) (i : Int), vs = [.ref a, .int i] ∧ OexC K C ∧ PySem.W.findIn K (.ref C) "at" = some none ∧ H a = some (exo a C none) ∧ i.natAbs.log2 < 1900 ∧
  ∀ dx, H dx = none → dx ≠ a → Q .non (upd (upd H dx (exd dx [("at", .int i)])) a (exo a C (some dx)))
/-- the def of __init__, ready to be called -/
def CalI (Pg : Program) (w : World) (K : PySem.W.Frag) (mg : Str → Option Value) (base : Heap) (f : Addr) (k : Nat) : Prop := ∃ fd ps, Binds K fd ps [] ∧ FnOk Pg w K mg base CX0 k f fd ps (spErrI K)
/-- a promise that may end by an error: PX says which class, which place -/
def spE (K : PySem.W.Frag) (n : Nat) (P : List PyData → PyData → Prop) (PX : List PyData → Addr → Int → Prop) : Sp := fun vs H Q E => vs.length = n ∧ ∃ F ds, Ex F H ∧ DqAll K F vs ds ∧
  ((∃ d, P ds d ∧ ∀ v F' H', Gr F H F' H' → Dq K F' v d → Q v H') ∨ ∃ C i, PX ds C i ∧ ∀ F' H' dx, Gr F H F' H' → H dx = none → F' dx = none → H' dx = some (.xd [("at", .int i)]) → E (.ref C) (some dx) H')
/-- raise C(te) -/
def tRz (K : PySem.W.Frag) (C : Addr) (te : TE) (W : WX) : TS := fun _ σ H => tMkO C (spErrI K) [] (tCons te tNil) σ H fun cls d H' => W cls d σ H'
theorem ps_rz {X : Cx} {W : WX} {x : Str} {C fI : Addr} {k : Nat} {e : Expr} {te : TE} {p pos pos' : Pos} (hc : X.calm = true) (tk : Takes X W) (T : ErrC X.K C fI) (G : CalI X.prog X.w X.K X.mg X.base fI k) (hr : Room (k + 1) X.A) (hg : Gl X x) (hm : X.mg x = some (.ref C)) (he : PE X e te)
    (hdb : (x == ("__debug__" : Str)) = false := by decide) (hs : starEach [e] X.env = (false, eval e X.env) :: starEach [] X.env := by rfl) (hq : (backTo pos' (starEach [] X.env)).any (·.1) = false := by rfl) : PS X (.Raise (some (.Call (.Name x p) [e] [] pos')) none pos) (tRz X.K C te W) := by
  obtain ⟨fd, ps, hb, F⟩ := G
  exact ps_raise hc tk (pmk_oex T.ox T.ini T.tyI F hr hb .nil pass0 hg hm (pa_cons he pa_nil hs) hdb hs hq)
section
variable {K : PySem.W.Frag} {ρ : List Sl} {te : TE} {N : List Sl → Prop} {R : PyData → Prop} {B : Hp → Hp → Prop}
theorem rz_run {C fI : Addr} {i : Int} {F H : Hp} {σ : L2.St} {W : WX} {v : V} (T : ErrC K C fI) (le : Ex F H) (hv : Dq K F v (.int i)) (hi : i.natAbs.log2 < 1900)
    (hW : ∀ H' dx, Gr F H F H' → H dx = none → H' dx = some (.xd [("at", .int i)]) → W (.ref C) (some dx) σ H') :
    [v].length ≤ 1000 ∧ ∀ a, H a = none → spErrI K (.ref a :: ([v] ++ [])) (upd H a (exo a C none))
      (fun v H2 => v = .non ∧ ∃ (d : Addr) (fs : List (Str × V)), H2 a = some (exo a C (some d)) ∧ H2 d = some (exd d fs) ∧ H d = none ∧ W (.ref C) (some d) σ (upd (del H2 a) d (.xd fs))) (fun _ _ _ => False) := by
  refine ⟨by simp, fun a ha => ⟨a, C, i, by rw [dp_int hv]; rfl, T.ox, T.noAt, upd_same, hi, fun dx h1 h2 => ⟨rfl, dx, [("at", .int i)], upd_same, ?_, ?_, ?_⟩⟩⟩
  · rw [upd_ne h2, upd_same]
  · rwa [upd_ne h2] at h1
  · have hdx : H dx = none := by rwa [upd_ne h2] at h1
    have e : upd (del (upd (upd (upd H a (exo a C none)) dx (exd dx [("at", .int i)])) a (exo a C (some dx))) a) dx (.xd [("at", .int i)]) = upd H dx (.xd [("at", .int i)]) := by
      funext b
      by_cases hb : b = dx
      · subst hb; rw [upd_same, upd_same]
      · rw [upd_ne hb, upd_ne hb]
        by_cases hba : b = a
        · subst hba; rw [del_same, ha]
        · rw [del_ne hba, upd_ne hba, upd_ne hb, upd_ne hba]
    rw [e]
    exact hW _ dx (Gr.newH le hdx _) hdx upd_same
theorem sd_rz {C fI : Addr} {i : Int} {E : XK} (T : ErrC K C fI) (h : XD K te ρ (.int i)) (hi : i.natAbs.log2 < 1900)
    (hE : ∀ F0 H0, B F0 H0 → ∀ F' H' dx, Gr F0 H0 F' H' → H0 dx = none → F' dx = none → H' dx = some (.xd [("at", .int i)]) → E (.ref C) (some dx) H') : SD K B (tRz K C te (fun cls d _ H => E cls d H)) ρ N R := fun F0 H0 F H σ D hB En n r =>
  h F0 H0 F H σ En _ fun v F1 H1 g1 d1 => rz_run (σ := σ) (W := fun cls d _ H => E cls d H) T g1.le d1 hi fun H' dx g hd hx =>
    hE F0 H0 hB F1 H' dx ((En.gr.trans g1).trans g) (Evl.fresh_back (En.gr.h.trans g1.h) hd) (free_of g1.le hd) hx
/-- the reading of a def that may raise -/
theorem body_E {t : TS} {n : Nat} {P : List PyData → PyData → Prop} {PX : List PyData → Addr → Int → Prop} {N : List Str} (hN : n ≤ N.length) {vs : List V} {H : Hp} {Q : VK} {E : XK} (h : spE K n P PX vs H Q E)
    (hb : ∀ ds (Rd : PyData → Prop) (BX : Addr → Int → Prop) (B : Hp → Hp → Prop), ds.length = n → ((∃ d, P ds d ∧ ∀ r, r = d → Rd r) ∨ ∃ C i, PX ds C i ∧ BX C i) →
      (∀ C i, BX C i → ∀ F0 H0, B F0 H0 → ∀ F' H' dx, Gr F0 H0 F' H' → H0 dx = none → F' dx = none → H' dx = some (.xd [("at", .int i)]) → E (.ref C) (some dx) H') →
      SD K B t (ds.map .dt ++ List.replicate (N.length - ds.length) .no) (fun _ => Rd .none) Rd) : t { nx := fun _ H' => Q .non H', rt := Q } (L2.start N vs) H := by
  obtain ⟨hl, F, ds, le, hd, hc⟩ := h
  have hdl := dpa_len hd
  rcases hc with ⟨d, hP, q⟩ | ⟨C, i, hX, q⟩
  · refine hb ds (fun r => r = d) (fun _ _ => False) (fun F0 H0 => F0 = F ∧ H0 = H) (by omega) (.inl ⟨d, hP, fun _ e => e⟩) (fun _ _ z => z.elim) F H F H _ _ ⟨rfl, rfl⟩ (env_start le hd (by omega)) (fun F' H' σ' ρ' a _ E' => ?_) (fun F' H' v r a g dr => ?_)
    · cases a; exact q _ F' H' E'.gr .non
    · cases a; exact q v F' H' g dr
  · refine hb ds (fun _ => False) (fun C' i' => C' = C ∧ i' = i) (fun F0 H0 => F0 = F ∧ H0 = H) (by omega) (.inr ⟨C, i, hX, rfl, rfl⟩) (fun C' i' z F0 H0 b F' H' dx g h1 h2 h3 => ?_) F H F H _ _ ⟨rfl, rfl⟩ (env_start le hd (by omega)) (fun _ _ _ _ a _ _ => a.elim) (fun _ _ _ _ a _ _ => a.elim)
    obtain ⟨rfl, rfl⟩ := z
    obtain ⟨rfl, rfl⟩ := b
    exact q F' H' dx g h1 h2 h3
end
end DD

set_option Elab.async false
set_option linter.all false
set_option maxRecDepth 100000
set_option maxHeartbeats 4000000
namespace DD
open PySem PySem.Spec PyProof.Rows L2
open Evl (Ex ex_l ex_t ex_rd)
/-! ### rows of one's own: a list of lists that none else holds -/
structure OwnRows (K : PySem.W.Frag) (F H : Hp) (c : Addr) (rs : List Addr) (rows : List (List PyData)) : Prop where
  nd : (c :: rs).Nodup
  free : ∀ q ∈ c :: rs, F q = none
  top : H c = some (.lst (rs.map V.ref))
  row : Paired (fun r row => ∃ vs, H r = some (.lst vs) ∧ DqAll K F vs row) rs rows
theorem paired_imp {α β : Type} {P Q : α → β → Prop} : ∀ {as : List α} {bs : List β}, Paired P as bs → (∀ a b, a ∈ as → P a b → Q a b) → Paired Q as bs
  | _, _, .nil, _ => .nil
  | _, _, .cons h t, k => .cons (k _ _ List.mem_cons_self h) (paired_imp t fun a b ha => k a b (List.mem_cons_of_mem _ ha))
theorem paired_snoc {α β : Type} {P : α → β → Prop} {a : α} {b : β} (h : P a b) : ∀ {as : List α} {bs : List β}, Paired P as bs → Paired P (as ++ [a]) (bs ++ [b])
  | _, _, .nil => .cons h .nil
  | _, _, .cons k t => .cons k (paired_snoc h t)
theorem dpa_lists {K : PySem.W.Frag} {F : Hp} : ∀ {xs : List V} {rows : List (List PyData)}, DqAll K F xs (rows.map .list) → ∀ (i : Nat) (x : V), xs[i]? = some x → ∃ row, rows[i]? = some row ∧ Dq K F x (.list row) := fun {xs rows} h i x hx => by
  obtain ⟨d, h1, h2⟩ := dpa_get' h hx
  rw [List.getElem?_map] at h1
  obtain ⟨row, h3, rfl⟩ := Option.map_eq_some_iff.mp h1
  exact ⟨row, h3, h2⟩
def spCopy (K : PySem.W.Frag) : Sp := fun vs H Q _ => vs.length = 1 ∧ ∃ F v rows, vs = [v] ∧ Ex F H ∧ Dq K F v (.list (rows.map .list)) ∧ rows.length ≤ 50000 ∧
  ∀ c rs H', Gr F H F H' → (∀ q ∈ c :: rs, H q = none) → OwnRows K F H' c rs rows → Q (.ref c) H'
/-- [list(row) for row in rows] -/
theorem copy_run {K : PySem.W.Frag} {F H : Hp} {v : V} {rows : List (List PyData)} {Q : VK} (le : Ex F H) (hv : Dq K F v (.list (rows.map .list))) (hn : rows.length ≤ 50000)
    (q : ∀ c rs H', Gr F H F H' → (∀ q ∈ c :: rs, H q = none) → OwnRows K F H' c rs rows → Q (.ref c) H') :
    tLc (iList K (tVar 0)) (gName 1) tYes (tCB (rListD K) (tCons (tVar 1) tNil)) [1] [some v, none] H Q := by
  obtain ⟨a, xs, rfl, hs, hd⟩ := dp_lst hv
  have hlen : xs.length = rows.length := by rw [dpa_len hd, List.length_map]
  refine ⟨.ref a, rfl, a, rfl, ⟨xs, ex_l le hs⟩, fun D hD => lc_list (xs := xs) (fun i H2 => ∃ rs : List Addr, Gr F H F H2 ∧ (∀ z ∈ D :: rs, H z = none) ∧ (D :: rs).Nodup ∧ H2 D = some (.lst (rs.map V.ref)) ∧ rs.length = i ∧
    Paired (fun r row => ∃ vs, H2 r = some (.lst vs) ∧ DqAll K F vs row) rs (rows.take i)) ?_ ?_ ?_ ?_⟩
  · exact ⟨[], Gr.newH le hD _, fun z hz => by rw [List.mem_singleton.mp hz]; exact hD, by simp, upd_same, rfl, .nil⟩
  · rintro i H2 _ ⟨rs, g, _⟩
    exact ex_l g.le hs
  · rintro i x H2 hx ⟨rs, g, hfree, hnd, hDl, hl, hp⟩
    obtain ⟨row, hrow, hdx⟩ := dpa_lists hd i x hx
    obtain ⟨p, ys, rfl, b, c⟩ := dp_lst hdx
    refine ⟨rfl, .ref p, rfl, p, ys, rfl, .inl (ex_l g.le b), fun l hl' => ?_⟩
    have nDl : D ≠ l := fun z => by rw [← z, hDl] at hl'; cases hl'
    have hHl : H l = none := Evl.fresh_back g.h hl'
    have nin : l ∉ rs := fun z => by
      have := paired_mem hp z
      obtain ⟨vs, h1⟩ := this
      rw [hl'] at h1; cases h1
    have hi : i < xs.length := (List.getElem?_eq_some_iff.mp hx).1
    refine ⟨rs.map V.ref, by rw [upd_ne nDl]; exact hDl, by rw [List.length_map, hl]; exact Evl.sz_lt (by omega), rs ++ [l], ?_, ?_, ?_, ?_, by rw [List.length_append, hl]; rfl, ?_⟩
    · exact ⟨g.f, (g.h.trans (Ex.new hl')).mut (hfree D List.mem_cons_self), (g.le.trans (Ex.new hl')).mut (free_of le (hfree D List.mem_cons_self)), g.own⟩
    · intro z hz
      rcases List.mem_cons.mp hz with rfl | hz
      · exact hfree _ List.mem_cons_self
      · rcases List.mem_append.mp hz with hz | hz
        · exact hfree z (List.mem_cons_of_mem _ hz)
        · rw [List.mem_singleton.mp hz]; exact hHl
    · obtain ⟨h1, h2⟩ := List.nodup_cons.mp hnd
      refine List.nodup_cons.mpr ⟨fun z => ?_, ?_⟩
      · rcases List.mem_append.mp z with z | z
        · exact h1 z
        · exact nDl (List.mem_singleton.mp z)
      · rw [List.nodup_append]
        refine ⟨h2, by simp, fun x hx y hy => ?_⟩
        rw [List.mem_singleton.mp hy]
        exact fun z => nin (z ▸ hx)
    · rw [upd_same, List.map_append]; rfl
    · have et : rows.take (i + 1) = rows.take i ++ [row] := by
        rw [List.take_add_one, hrow]; rfl
      rw [et]
      refine paired_snoc ⟨ys, by rw [upd_ne (Ne.symm nDl), upd_same], c⟩ (paired_imp hp fun r row' hr h => ?_)
      obtain ⟨vs, h1, h2⟩ := h
      refine ⟨vs, ?_, h2⟩
      have n1 : r ≠ D := fun z => (List.nodup_cons.mp hnd).1 (z ▸ hr)
      have n2 : r ≠ l := fun z => nin (z ▸ hr)
      rw [upd_ne n1, upd_ne n2]
      exact h1
  · rintro H2 ⟨rs, g, hfree, hnd, hDl, hl, hp⟩
    rw [hlen, List.take_length] at hp
    exact q D rs H2 g hfree ⟨hnd, fun z hz => free_of le (hfree z hz), hDl, hp⟩
where
  paired_mem {K : PySem.W.Frag} {F H2 : Hp} {l : Addr} : ∀ {rs : List Addr} {rows : List (List PyData)}, Paired (fun r row => ∃ vs, H2 r = some (.lst vs) ∧ DqAll K F vs row) rs rows → l ∈ rs → ∃ vs, H2 l = some (.lst vs)
    | _, _, .nil, z => by cases z
    | _, _, .cons h t, z => by
      rcases List.mem_cons.mp z with rfl | z
      · obtain ⟨vs, h1, _⟩ := h; exact ⟨vs, h1⟩
      · exact paired_mem t z
/-- frozen: rows as data -/
theorem OwnRows.frz {K : PySem.W.Frag} {F0 H0 F H : Hp} {c : Addr} : ∀ {rs : List Addr} {rows : List (List PyData)}, Gr F0 H0 F H → (∀ q ∈ c :: rs, H0 q = none) → OwnRows K F H c rs rows → ∃ F', Gr F0 H0 F' H ∧ Ex F F' ∧ Dq K F' (.ref c) (.list (rows.map .list)) := fun {rs rows} g h0 O => by
  have key : ∀ (rs : List Addr) (rows : List (List PyData)), rs.Nodup → (∀ q ∈ rs, H0 q = none ∧ F q = none) → Paired (fun r row => ∃ vs, H r = some (.lst vs) ∧ DqAll K F vs row) rs rows →
      ∃ F', Gr F0 H0 F' H ∧ Ex F F' ∧ (∀ q, F q = none → q ∉ rs → F' q = none) ∧ DqAll K F' (rs.map V.ref) (rows.map .list) := by
    intro rs
    induction rs with
    | nil => intro rows _ _ hp; cases hp; exact ⟨F, g, Ex.refl F, fun _ h _ => h, .nil⟩
    | cons r rs ih =>
      intro rows nd hf hp
      cases hp with
      | cons hr ht =>
        obtain ⟨n1, n2⟩ := List.nodup_cons.mp nd
        obtain ⟨F1, g1, e1, k1, d1⟩ := ih _ n2 (fun q hq => hf q (List.mem_cons_of_mem _ hq)) ht
        obtain ⟨vs, h1, h2⟩ := hr
        have hr1 : F1 r = none := k1 r (hf r List.mem_cons_self).2 n1
        refine ⟨upd F1 r (.lst vs), g1.frz (hf r List.mem_cons_self).1 hr1 h1, e1.trans (Ex.new hr1), fun q hq hn => ?_, ?_⟩
        · have : q ≠ r := fun z => hn (z ▸ List.mem_cons_self)
          rw [upd_ne this]
          exact k1 q hq fun z => hn (List.mem_cons_of_mem _ z)
        · exact .cons (.lst (Rd.of upd_same) (dpa_mono (e1.trans (Ex.new hr1)) _ _ h2)) (dpa_mono (Ex.new hr1) _ _ d1)
  obtain ⟨n1, n2⟩ := List.nodup_cons.mp O.nd
  obtain ⟨F1, g1, e1, k1, d1⟩ := key rs rows n2 (fun q hq => ⟨h0 q (List.mem_cons_of_mem _ hq), O.free q (List.mem_cons_of_mem _ hq)⟩) O.row
  have hc1 : F1 c = none := k1 c (O.free c List.mem_cons_self) n1
  exact ⟨upd F1 c (.lst (rs.map V.ref)), g1.frz (h0 c List.mem_cons_self) hc1 O.top, e1.trans (Ex.new hc1), .lst (Rd.of upd_same) (dpa_mono (Ex.new hc1) _ _ d1)⟩
/-- the promise of data from the promise of own rows -/
theorem copy_data {K : PySem.W.Frag} {vs : List V} {H : Hp} {Q : VK} {E : XK} (h : spD K 1 (fun ds d => ∃ rows : List (List PyData), ds = [.list (rows.map .list)] ∧ rows.length ≤ 50000 ∧ d = .list (rows.map .list)) vs H Q E) : spCopy K vs H Q E := by
  obtain ⟨hl, F, ds, d, le, hd, ⟨rows, rfl, hn, rfl⟩, q⟩ := h
  obtain ⟨v, rfl, dv⟩ := dpa1 hd
  refine ⟨rfl, F, v, rows, rfl, le, dv, hn, fun c rs H' g h0 O => ?_⟩
  obtain ⟨F', g', _, hd'⟩ := O.frz g h0
  exact q _ F' H' g' hd'
end DD

set_option Elab.async false
set_option linter.all false
set_option maxRecDepth 100000
set_option maxHeartbeats 4000000
namespace DD
open PySem PySem.Spec PyProof.Rows L2
open Evl (Ex ex_l ex_t ex_rd)
/-- a def that is called, of any promise -/
def CalS (Pg : Program) (w : World) (K : PySem.W.Frag) (mg : Str → Option Value) (base : Heap) (x : Str) (k : Nat) (sp : Sp) : Prop :=
  ∃ (f : Addr) (fd : FuncData) (ps : List Str), mg x = some (.ref f) ∧ PySem.W.keepIn K (.ref f) = true ∧ Binds K fd ps [] ∧ FnOk Pg w K mg base CX0 k f fd ps sp
theorem CalS.imp {Pg : Program} {w : World} {K : PySem.W.Frag} {mg : Str → Option Value} {base : Heap} {x : Str} {k : Nat} {sp sp' : Sp} (C : CalS Pg w K mg base x k sp) (h : ∀ vs H Q E, sp' vs H Q E → sp vs H Q E) : CalS Pg w K mg base x k sp' := by
  obtain ⟨f, fd, ps, h1, h2, h3, h4⟩ := C
  exact ⟨f, fd, ps, h1, h2, h3, h4.imp h⟩
theorem CalS.cal {Pg : Program} {w : World} {K : PySem.W.Frag} {mg : Str → Option Value} {base : Heap} {x : Str} {k n : Nat} {P : List PyData → PyData → Prop} (C : CalS Pg w K mg base x k (spD K n P)) : Cal Pg w K mg base x k n P := C
theorem pe_callSp {X : Cx} {x : Str} {k : Nat} {sp : Sp} {p pos : Pos} {e : Expr} {es : List Expr} {t : TA} (C : CalS X.prog X.w X.K X.mg X.base x k sp) (hr : Room k X.A) (hg : Gl X x) (ha : PA X (e :: es) t)
    (hdb : (x == ("__debug__" : Str)) = false := by decide) (he : starEach (e :: es) X.env = (false, eval e X.env) :: starEach es X.env := by rfl) (hpl : (backTo pos (starEach es X.env)).any (·.1) = false := by rfl) :
    PE X (.Call (.Name x p) (e :: es) [] pos) (tCall sp [] E0 t) := by
  obtain ⟨f, fd, ps, hm, hk, hb, F⟩ := C
  exact pe_call F hr hg hm hk hb .nil pass0 ha hdb he hpl
theorem OwnRows.ex {K : PySem.W.Frag} {F H H' : Hp} {c : Addr} {rs : List Addr} {rows : List (List PyData)} (e : Ex H H') (O : OwnRows K F H c rs rows) : OwnRows K F H' c rs rows :=
  ⟨O.nd, O.free, e _ _ O.top, paired_imp O.row fun r row _ h => by obtain ⟨vs, h1, h2⟩ := h; exact ⟨vs, e _ _ h1, h2⟩⟩
/-- a tuple of rows of one's own and two more things -/
def spTri (K : PySem.W.Frag) (P : PyData → List (List PyData) → PyData → PyData → Prop) : Sp := fun vs H Q _ => vs.length = 1 ∧ ∃ F v d rows d2 d3, vs = [v] ∧ Ex F H ∧ Dq K F v d ∧ P d rows d2 d3 ∧
  ∀ t c rs v2 v3 F' H', Gr F H F' H' → (∀ q ∈ t :: c :: rs, H q = none) → t ∉ c :: rs → F' t = none → OwnRows K F' H' c rs rows → H' t = some (.tup [.ref c, v2, v3]) → Dq K F' v2 d2 → Dq K F' v3 d3 → Q (.ref t) H'
theorem tri_frz {K : PySem.W.Frag} {F H F' H' : Hp} {t c : Addr} {rs : List Addr} {rows : List (List PyData)} {v2 v3 : V} {d2 d3 : PyData} (g : Gr F H F' H') (h0 : ∀ q ∈ t :: c :: rs, H q = none) (ht : t ∉ c :: rs) (hF : F' t = none)
    (O : OwnRows K F' H' c rs rows) (hT : H' t = some (.tup [.ref c, v2, v3])) (h2 : Dq K F' v2 d2) (h3 : Dq K F' v3 d3) : ∃ F2, Gr F H F2 H' ∧ Dq K F2 (.ref t) (.tuple [.list (rows.map .list), d2, d3]) := by
  -- the tuple first, then the rows
  have g1 := g.frz (h0 t List.mem_cons_self) hF hT
  have e1 : Ex F' (upd F' t (.tup [.ref c, v2, v3])) := Ex.new hF
  have O1 : OwnRows K (upd F' t (.tup [.ref c, v2, v3])) H' c rs rows := ⟨O.nd, fun q hq => by
    have : q ≠ t := fun z => ht (z ▸ hq)
    rw [upd_ne this]; exact O.free q hq, O.top, paired_imp O.row fun r row _ h => by obtain ⟨vs, a, b⟩ := h; exact ⟨vs, a, dpa_mono e1 _ _ b⟩⟩
  obtain ⟨F2, g2, e2, hd⟩ := O1.frz g1 (fun q hq => h0 q (List.mem_cons_of_mem _ hq))
  exact ⟨F2, g2, .tup (SqT.of (e2 t _ upd_same)) (.cons hd (.cons (dp_mono (e1.trans e2) _ _ h2) (.cons (dp_mono (e1.trans e2) _ _ h3) .nil)))⟩
theorem tri_data {K : PySem.W.Frag} {P : PyData → List (List PyData) → PyData → PyData → Prop} {vs : List V} {H : Hp} {Q : VK} {E : XK}
    (h : spD K 1 (fun ds d => ∃ a rows d2 d3, ds = [a] ∧ P a rows d2 d3 ∧ d = .tuple [.list (rows.map .list), d2, d3]) vs H Q E) : spTri K P vs H Q E := by
  obtain ⟨hl, F, ds, d, le, hd, ⟨a, rows, d2, d3, rfl, hP, rfl⟩, q⟩ := h
  obtain ⟨v, rfl, dv⟩ := dpa1 hd
  refine ⟨rfl, F, v, a, rows, d2, d3, rfl, le, dv, hP, fun t c rs v2 v3 F' H' g h0 ht hF O hT h2 h3 => ?_⟩
  obtain ⟨F2, g2, hd2⟩ := tri_frz g h0 ht hF O hT h2 h3
  exact q _ F2 H' g2 hd2
/-- told = look(x); if test: return ..; told[0][0][0] = None; told[0].append(1); the rest -/
theorem sd_told {K : PySem.W.Frag} {ρ : List Sl} {ta : TE} {tt : TT} {u tr : TS} {N : List Sl → Prop} {R : PyData → Prop} {B : Hp → Hp → Prop} {P : PyData → List (List PyData) → PyData → PyData → Prop} {j : Nat} {d d2 d3 : PyData} {row : List PyData} {rows : List (List PyData)} {x : PyData}
    (hj : j < ρ.length) (ha : XD K ta ρ d) (hP : P d ((x :: row) :: rows) d2 d3) (hlen : rows.length ≤ 50000) (htt : XT K tt (ρ.set j (.dt (.tuple [.list (((x :: row) :: rows).map .list), d2, d3]))) false) (hu : SD K B u (ρ.set j .no) N R) :
    SD K B (tSeq (tAsg (tCall (spTri K P) [] E0 (tCons ta tNil)) (gName j)) (tSeq (tIfS tt tr tNext) (tSeq (tAsg (tC .non) (gSub (tOp (rIxL K) (tOp (rIxT K) (tVar j) (tC (.int 0))) (tC (.int 0))) (tC (.int 0)) rSetL))
      (tSeq (tDrop (tBM K "list" rAppend (tOp (rIxT K) (tVar j) (tC (.int 0))) (tCons (tC (.int 1)) tNil))) u)))) ρ N R := fun F0 H0 F H σ D hB E n r =>
  ha F0 H0 F H σ E _ fun v F1 H1 g1 d1 => by
    refine ⟨rfl, F1, v, d, _, d2, d3, rfl, g1.le, d1, hP, fun t c rs v2 v3 F2 H2 g2 h0 ht hF O hT h2 h3 => ?_⟩
    have E1 := E.grow g1
    obtain ⟨F3, g3, dT⟩ := tri_frz g2 h0 ht hF O hT h2 h3
    have E3 := (E1.grow g3).setD j dT
    have hjs : j < σ.length := by rw [E.len]; exact hj
    refine htt F0 H0 F3 H2 _ E3 _ fun F4 H4 g4 => ?_
    rw [if_neg (by decide)]
    have e24 : Ex H2 H4 := g4.h
    have O4 := O.ex e24
    have hT4 := e24 _ _ hT
    have hsj : (σ.set j (some (V.ref t)))[j]? = some (some (.ref t)) := List.getElem?_set_self hjs
    obtain ⟨nd, free, top, prow⟩ := O4
    cases prow with
    | @cons r0 _ rs' _ hr hrest =>
      obtain ⟨vs, hr1, hr2⟩ := hr
      have nrc : r0 ≠ c := fun z => (List.nodup_cons.mp nd).1 (z ▸ List.mem_cons_self)
      have ntc : t ≠ c := fun z => ht (z ▸ List.mem_cons_self)
      have ntr : t ≠ r0 := fun z => ht (z ▸ List.mem_cons_of_mem _ List.mem_cons_self)
      have hrl : rs'.length = rows.length := paired_len hrest
      have hvl : vs.length = row.length + 1 := by rw [dpa_len hr2]; rfl
      have hat : atI ((r0 :: rs').map V.ref) 0 = some (V.ref r0) := atI_nat (xs := (r0 :: rs').map V.ref) (j := 0) rfl
      refine ⟨.ref t, hsj, t, _, 0, .ref c, rfl, rfl, SqT.of hT4, rfl, c, _, 0, .ref r0, rfl, rfl, SqL.of top, hat, r0, vs, 0, 0, rfl, rfl, hr1, ?_, ?_⟩
      · unfold ixN; rw [if_pos (by decide), if_pos (by omega)]; rfl
      · have top' : upd H4 r0 (.lst (vs.set 0 .non)) c = some (.lst ((r0 :: rs').map V.ref)) := by rw [upd_ne (Ne.symm nrc)]; exact top
        refine ⟨.ref t, hsj, t, _, 0, .ref c, rfl, rfl, SqT.of (by rw [upd_ne ntr]; exact hT4), rfl, .inl ⟨rfl, _, SqL.of top'⟩, c, _, .int 1, rfl, rfl, top', ?_, ?_⟩
        · rw [List.length_map, List.length_cons, hrl]; exact Evl.sz_lt (by omega)
        · have hr0H : H1 r0 = none := h0 r0 (List.mem_cons_of_mem _ (List.mem_cons_of_mem _ List.mem_cons_self))
          have hcH : H1 c = none := h0 c (List.mem_cons_of_mem _ List.mem_cons_self)
          have gg : Gr F1 H1 F2 (upd (upd H4 r0 (.lst (vs.set 0 .non))) c (.lst ((r0 :: rs').map V.ref ++ [.int 1]))) :=
            ⟨g2.f, ((g2.h.trans e24).mut hr0H).mut hcH, ((g2.le.trans e24).mut (free r0 (List.mem_cons_of_mem _ List.mem_cons_self))).mut (free c List.mem_cons_self), g2.own⟩
          exact hu F0 H0 F2 _ _ D hB ((E1.grow gg).setNo j _) (fun F' H' σ' ρ' a e E' => n F' H' σ' ρ' a ((g1.trans gg).f.trans e) E') r
where
  paired_len {α β : Type} {P : α → β → Prop} : ∀ {as : List α} {bs : List β}, Paired P as bs → as.length = bs.length
    | _, _, .nil => rfl
    | _, _, .cons _ t => by rw [List.length_cons, List.length_cons, paired_len t]
end DD

set_option Elab.async false
set_option linter.all false
set_option maxRecDepth 100000
set_option maxHeartbeats 4000000
namespace DD
open PySem PySem.Spec PyProof.Rows L2
open Evl (Ex ex_l ex_t ex_rd)
section
variable {K : PySem.W.Frag} {ρ : List Sl} {ta tb te : TE} {d e : PyData} {ds es : List PyData}
theorem cut_to {α : Type} (xs : List α) (f : α → PyData) {n : Int} (h : 0 ≤ n) : cutD (xs.map f) none (some n) = (xs.take n.toNat).map f := by
  have e : n = (n.toNat : Int) := by omega
  unfold cutD
  rw [HT.sIx_none, e, HT.sIx_nat, List.drop_zero, List.length_map, List.map_take]
  simp only [Int.toNat_natCast, Nat.sub_zero]
  rw [Nat.min_def]
  split
  · rfl
  · rw [List.take_of_length_le (by simp), List.take_of_length_le (by simp; omega)]
theorem cut_from {α : Type} (xs : List α) (f : α → PyData) {n : Int} (h : 0 ≤ n) : cutD (xs.map f) (some n) none = (xs.drop n.toNat).map f := by
  have e : n = (n.toNat : Int) := by omega
  unfold cutD
  rw [HT.sIx_none, e, HT.sIx_nat, List.length_map, List.map_drop]
  simp only [Int.toNat_natCast]
  rw [List.take_of_length_le (by simp), Nat.min_def]
  split
  · rfl
  · rw [List.drop_eq_nil_of_le (by simp), List.drop_eq_nil_of_le (by simp; omega)]
theorem xo_to {α : Type} {xs : List α} {f : α → PyData} {n : Int} (h : XD K te ρ (.list (xs.map f))) (h2 : XD K ta ρ (.int n)) (hn : 0 ≤ n) : XO K (tSl (rSlL K) te tNoPart (tPart ta)) ρ ((xs.take n.toNat).map f) :=
  (xo_sl h xp_none (xp_some h2)).is (cut_to xs f hn)
theorem xo_from {α : Type} {xs : List α} {f : α → PyData} {n : Int} (h : XD K te ρ (.list (xs.map f))) (h2 : XD K ta ρ (.int n)) (hn : 0 ≤ n) : XO K (tSl (rSlL K) te (tPart ta) tNoPart) ρ ((xs.drop n.toNat).map f) :=
  (xo_sl h (xp_some h2) xp_none).is (cut_from xs f hn)
theorem xo_catM {α : Type} {xs ys : List α} {f : α → PyData} (h1 : XD K ta ρ (.list (xs.map f))) (h2 : XD K tb ρ (.list (ys.map f))) (hz : xs.length + ys.length ≤ 100000) : XO K (tOp rCatR ta tb) ρ ((xs ++ ys).map f) :=
  (xo_cat h1 h2 (by rw [List.length_map, List.length_map]; exact hz)).is (List.map_append).symm
theorem xo_one {α : Type} {x : α} {f : α → PyData} (h : XD K te ρ (f x)) : XO K (tLst (tCons te tNil)) ρ ([x].map f) := xo_lst (xa_cons h xa_nil) (by simp)
end
/-! the law's own promise -/
def spTop (K : PySem.W.Frag) : Sp := fun vs H Q _ => ∃ (a : Addr) (ns : List Int), vs = [.ref a] ∧ SqL K H a (ns.map V.int) ∧ ns.length ≤ 63 ∧ ∀ H', Q (.bl true) H'
theorem body_L {K : PySem.W.Frag} {t : TS} {N : List Str} (hN : 1 ≤ N.length) {vs : List V} {H : Hp} {Q : VK} {E : XK} (h : spTop K vs H Q E)
    (hb : ∀ ns : List Int, ns.length ≤ 63 → SD K (fun _ _ => True) t (.sq (ns.map V.int) :: List.replicate (N.length - 1) .no) (fun _ => False) (fun r => r = .bool true)) : t { nx := fun _ H' => Q .non H', rt := Q } (L2.start N vs) H := by
  obtain ⟨a, ns, rfl, hs, hn, q⟩ := h
  refine hb ns hn H H H H _ _ trivial (env_seq (Ex.refl H) hs hN) (fun _ _ _ _ z _ _ => z.elim) (fun F' H' v r z _ dr => ?_)
  subst z
  cases dr
  exact q H'
/-- calls that may raise -/
def CalE (Pg : Program) (w : World) (K : PySem.W.Frag) (mg : Str → Option Value) (base : Heap) (x : Str) (k : Nat) (sp : Sp) : Prop :=
  ∃ (f : Addr) (fd : FuncData) (ps : List Str), mg x = some (.ref f) ∧ PySem.W.keepIn K (.ref f) = true ∧ Binds K fd ps [] ∧ FnOk Pg w K mg base (CX Pg w) k f fd ps sp
end DD

set_option Elab.async false
set_option linter.all false
set_option maxRecDepth 100000
set_option maxHeartbeats 4000000
namespace DD
open PySem PySem.Spec PyProof.Rows L2
/-! the head: the facts by names and one more Bool -/
abbrev AlY : Type := He.AlD × Bool
def obsY (n : Nat) (fa : List He.Fa) (fn : List He.DefD) (ex : PySem.W.Frag → Bool) (g : Addr → Option Obj) : AlY := (He.obsD fa fn (He.frG g (He.asD g n)), ex (He.frG g (He.asD g n)))
def hookY (n : Nat) (fa : List He.Fa) (fn : List He.DefD) (ex : PySem.W.Frag → Bool) : PySem.W.Hook where
  α := AlY
  obs := fun s => obsY n fa fn ex s.heap.get?
  val := fun _ => (He.valD fn, true)
  says := fun _ h => ∃ K : PySem.W.Frag, K.In h ∧ He.SaysD fa fn K ∧ ex K = true
  of := fun _ _ e => ⟨_, He.frG_in, congrArg (fun z : AlY => z.1) e, congrArg (fun z : AlY => z.2) e⟩
  keeps := fun _ _ _ ⟨K, hK, c⟩ k => ⟨K, PySem.W.Frag.In.keeps hK k, c⟩
theorem obsY_eq {n : Nat} {fa : List He.Fa} {fn : List He.DefD} {ex : PySem.W.Frag → Bool} {g : Addr → Option Obj} {s : Shared} (h : ∀ a, g a = s.heap.get? a) : obsY n fa fn ex g = (hookY n fa fn ex).obs s := by
  have e : g = s.heap.get? := funext h
  rw [e] <;> rfl
/-- one's own error class -/
def excB (K : PySem.W.Frag) (x b : Str) : Bool := errB K x b && decide (PySem.W.exmOne K (.ref (He.ga K x)) (.ref (He.ga K x)) = some true)
def vvB (K : PySem.W.Frag) : Bool := match PySem.W.findCls K (.type "ValueError") (.type "type") "__init__" with
  | some (.val (.builtin n)) => n == "ValueError.__init__"
  | _ => false
theorem vvB_ok {K : PySem.W.Frag} (h : vvB K = true) : PySem.W.findCls K (.type "ValueError") (.type "type") "__init__" = some (.val (.builtin "ValueError.__init__")) := by
  unfold vvB at h
  split at h
  · rename_i n e
    rw [e, eq_of_beq h]
  · cases h
theorem excB_err {K : PySem.W.Frag} {x b : Str} (h : excB K x b = true) : ErrC K (He.ga K x) (He.ma K (He.ga K b) "__init__") := errB_ok (He.ba h).1
theorem excB_exm {K : PySem.W.Frag} {x b : Str} (h : excB K x b = true) : PySem.W.exmOne K (.ref (He.ga K x)) (.ref (He.ga K x)) = some true := of_decide_eq_true (He.ba h).2
end DD

set_option Elab.async false
set_option linter.all false
set_option maxRecDepth 100000
set_option maxHeartbeats 0
namespace My
open PySem PySem.Spec PyProof.Rows L2 DD
open Evl (Ex)

def top (i : Nat) : Stmt := PySem.Challenge.pw_samescreen_k00_what_is_a_screen.main.body.getD i (.Pass ⟨0, 0, 0, 0⟩)
abbrev s_ScreenError_init : Stmt := inClass (top 1) 0
abbrev s_start_screen : Stmt := top 11
abbrev s_untested_start : Stmt := top 12
abbrev s_blank_cells : Stmt := top 13
abbrev s_copied_rows : Stmt := top 14
abbrev s_is_screen : Stmt := top 15
abbrev s_is_size : Stmt := top 16
abbrev s_are_rows : Stmt := top 17
abbrev s_are_cells : Stmt := top 18
abbrev s_is_char : Stmt := top 19
abbrev s_is_pen : Stmt := top 20
abbrev s_is_number : Stmt := top 21
abbrev s_is_cursor : Stmt := top 22
abbrev s_is_band : Stmt := top 23
abbrev s_look : Stmt := top 24
abbrev s_shown_text : Stmt := top 25
abbrev s_row_text : Stmt := top 26
abbrev s_law_draws : Stmt := top 28
abbrev s_law_at : Stmt := top 29
abbrev s_law_is_integer : Stmt := top 30
abbrev s_law_mix : Stmt := top 31
abbrev s_law_char : Stmt := top 32
abbrev s_law_cells : Stmt := top 33
abbrev s_law_screen : Stmt := top 34
abbrev s_law_spoilt : Stmt := top 35
abbrev s_law_started : Stmt := top 36
abbrev s_law : Stmt := top 37
structure Txt (K : PySem.W.Frag) (mg : Str → Option Value) : Prop where
  f_len : mg "len" = none
  f_int : mg "int" = none
  f_abs : mg "abs" = none
  f_min : mg "min" = none
  f_ord : mg "ord" = none
  f_isinstance : mg "isinstance" = none
  f_repr : mg "repr" = none
  f_range : mg "range" = none
  f_all : mg "all" = none
  f_tuple : mg "tuple" = none
  f_list : mg "list" = none
  f_str : mg "str" = none
  f_bool : mg "bool" = none
  f_ValueError : mg "ValueError" = none
  c_MOST_ROWS : ∃ t, mg "MOST_ROWS" = some (.int 12 t)
  c_MOST_COLUMNS : ∃ t, mg "MOST_COLUMNS" = some (.int 40 t)
  c_MOST_PEN : ∃ t, mg "MOST_PEN" = some (.int 15 t)
  c_MOST_HISTORY : ∃ t, mg "MOST_HISTORY" = some (.int 50 t)
  c_FIRST_CHAR : ∃ t, mg "FIRST_CHAR" = some (.int 32 t)
  c_LAST_CHAR : ∃ t, mg "LAST_CHAR" = some (.int 126 t)
  c_PERCENT_SIGN : ∃ t, mg "PERCENT_SIGN" = some (.int 37 t)
  vV : PySem.W.findCls K (.type "ValueError") (.type "type") "__init__" = some (.val (.builtin "ValueError.__init__"))
  g_ScreenError : mg "ScreenError" = some (.ref (He.ga K "ScreenError"))
  e_ScreenError : ErrC K (He.ga K "ScreenError") (He.ma K (He.ga K "ScreenError") "__init__")
  x_ScreenError : PySem.W.exmOne K (.ref (He.ga K "ScreenError")) (.ref (He.ga K "ScreenError")) = some true
  g_OutOfRange : mg "OutOfRange" = some (.ref (He.ga K "OutOfRange"))
  e_OutOfRange : ErrC K (He.ga K "OutOfRange") (He.ma K (He.ga K "ScreenError") "__init__")
  x_OutOfRange : PySem.W.exmOne K (.ref (He.ga K "OutOfRange")) (.ref (He.ga K "OutOfRange")) = some true

abbrev pI (l : List Int) : PyData := .list (l.map .int)
def m_at (dr : List Int) (k many : Int) : Int := if k < (dr.length : Int) then dr.getD k.toNat 0 % many else 0
def P_law_at : List PyData → PyData → Prop := fun ds d => ∃ (dr : List Int) (k many : Int), ds = [pI dr, .int k, .int many] ∧ 0 ≤ k ∧ 0 < many ∧ d = .int (m_at dr k many)
def m_mix (dr : List Int) (k many : Int) : Int :=
  if k < (dr.length : Int) then (if 0 < (dr.length : Int) then dr.getD (k % dr.length).toNat 0 else 0) % many
  else ((if 0 < (dr.length : Int) then dr.getD (k % dr.length).toNat 0 else 0) * 7919 + k * 104729) / 3 % many
def P_law_mix : List PyData → PyData → Prop := fun ds d => ∃ (dr : List Int) (k many : Int), ds = [pI dr, .int k, .int many] ∧ 0 < many ∧ d = .int (m_mix dr k many)
def charTab : Str := " !\"#$&'()*+,-./0123456789:;<=>?@ABCDEFGHIJKLMNOPQRSTUVWXYZ[\\]^_`abcdefghijklmnopqrstuvwxyz{|}~"
def m_char (cell : Int) : Str := ⟨#[charTab.cps.toList.getD (cell % 94).toNat 0]⟩
def P_law_char : List PyData → PyData → Prop := fun ds d => ∃ (cell : Int), ds = [.int cell] ∧ d = .str (m_char cell)

/-! program: what a screen is -/
abbrev Cell := Str × Int
abbrev pC (c : Cell) : PyData := .tuple [.str c.1, .int c.2]
abbrev pR (r : List Cell) : PyData := .list (r.map pC)
abbrev pRs (rs : List (List Cell)) : PyData := .list (rs.map pR)
def isNum (d : PyData) (l g : Int) : Bool := match d with
  | .int i => decide (l ≤ i) && decide (i ≤ g)
  | _ => false
def P_is_number : List PyData → PyData → Prop := fun ds d => ∃ (v : PyData) (l g : Int), ds = [v, .int l, .int g] ∧ d = .bool (isNum v l g)
def P_is_pen : List PyData → PyData → Prop := fun ds d => ∃ (v : PyData), ds = [v] ∧ d = .bool (isNum v 0 15)
def isChr : PyData → Bool
  | .str x => decide (x.length = 1) && (decide (32 ≤ x.cps.getD 0 0) && decide (x.cps.getD 0 0 ≤ 126) && !decide (x.cps.getD 0 0 = 37))
  | _ => false
def shortD : PyData → Prop
  | .str x => x.length ≤ 1000
  | _ => True
def P_is_char : List PyData → PyData → Prop := fun ds d => ∃ (v : PyData), ds = [v] ∧ shortD v ∧ d = .bool (isChr v)
def okCell (c : Cell) : Bool := isChr (.str c.1) && isNum (.int c.2) 0 15
def P_are_cells : List PyData → PyData → Prop := fun ds d => ∃ (r : List Cell), ds = [pR r] ∧ r.length ≤ 1000 ∧ (∀ c ∈ r, c.1.length ≤ 1000) ∧ d = .bool (r.all okCell)
def okRow (n : Int) (r : List Cell) : Bool := decide ((r.length : Int) = n) && r.all okCell
def P_are_rows : List PyData → PyData → Prop := fun ds d => ∃ (rs : List (List Cell)) (n : Int), ds = [pRs rs, .int n] ∧ rs.length ≤ 1000 ∧ (∀ r ∈ rs, r.length ≤ 1000 ∧ ∀ c ∈ r, c.1.length ≤ 1000) ∧ d = .bool (rs.all (okRow n))
def okCur (a b rows cols : Int) : Bool := (decide (0 ≤ a) && decide (a < rows)) && (decide (0 ≤ b) && decide (b ≤ cols))
def P_is_cursor : List PyData → PyData → Prop := fun ds d => ∃ (a b r c : Int), ds = [.tuple [.int a, .int b], .int r, .int c] ∧ d = .bool (okCur a b r c)
def okBand (a b rows : Int) : Bool := decide (0 ≤ a) && decide (a ≤ b) && decide (b < rows)
def P_is_size : List PyData → PyData → Prop := fun ds d => ∃ (rs : List (List Cell)), ds = [pRs rs] ∧ rs ≠ [] ∧ d = .bool ((decide (1 ≤ (rs.length : Int)) && decide ((rs.length : Int) ≤ 12)) && (decide (1 ≤ ((rs.getD 0 []).length : Int)) && decide (((rs.getD 0 []).length : Int) ≤ 40)))

/-! the law's draws -/
def drawBig : Nat → Int → List Int
  | 0, _ => []
  | n + 1, r => if 0 < r then (r % 65536) :: drawBig n (r / 65536) else drawBig n r
def mixed (r k : Int) : Int := (((r * 48271 + (k + 1) * 69621) % 2147483647) * 16807 + 11 * k + 5) % 2147483629
def absI (x : Int) : Int := if x < 0 then -x else x
def draw1 (x k : Int) : List Int := if 10 ^ 18 ≤ absI x then drawBig 60 (absI x) else [mixed (absI x) k % 65536, (mixed (absI x) k / 65536) % 32768]
def drawsTo (ns : List Int) (n : Nat) : List Int := (List.range n).flatMap fun k => draw1 (ns.getD k 0) k
def m_draws (ns : List Int) : List Int := drawsTo ns ns.length
def P_law_draws : List Int → PyData → Prop := fun ns d => ns.length ≤ 63 ∧ d = pI (m_draws ns)
theorem drawBig_len : ∀ (n : Nat) (r : Int), (drawBig n r).length ≤ n
  | 0, _ => Nat.le_refl _
  | n + 1, r => by
    unfold drawBig
    split
    · exact Nat.succ_le_succ (drawBig_len n _)
    · exact Nat.le_succ_of_le (drawBig_len n _)
theorem draw1_len (x k : Int) : (draw1 x k).length ≤ 60 := by
  unfold draw1
  split
  · exact drawBig_len _ _
  · show 2 ≤ 60; decide
theorem drawsTo_succ (ns : List Int) (n : Nat) : drawsTo ns (n + 1) = drawsTo ns n ++ draw1 (ns.getD n 0) n := by
  unfold drawsTo
  rw [List.range_succ, List.flatMap_append]
  simp
theorem drawsTo_len (ns : List Int) : ∀ n, (drawsTo ns n).length ≤ 60 * n
  | 0 => by simp [drawsTo]
  | n + 1 => by
    rw [drawsTo_succ, List.length_append]
    have := drawsTo_len ns n
    have := draw1_len (ns.getD n 0) n
    omega
def cellOf (v : Int) : Cell := if v % 3 = 0 then (" ", (v / 3) % 2) else (m_char (v / 3), (v / 300) % 16)
def m_row (dr : List Int) (k cols : Int) (r : Nat) (n : Nat) : List Cell := (List.range n).map fun (c : Nat) => cellOf (m_mix dr (k + r * cols + c) 9000)
def m_cells (dr : List Int) (k rows cols : Int) : List (List Cell) := (List.range rows.toNat).map fun r => m_row dr k cols r cols.toNat
def P_law_cells : List PyData → PyData → Prop := fun ds d => ∃ (dr : List Int) (k r c : Int), ds = [pI dr, .int k, .int r, .int c] ∧ 0 ≤ r ∧ r ≤ 100 ∧ 0 ≤ c ∧ c ≤ 100 ∧ d = pRs (m_cells dr k r c)
structure Scr where
  cells : List (List Cell)
  cr : Int
  cc : Int
  pen : Int
  top : Int
  bot : Int
  wraps : Bool
  sr : Int
  sc : Int
  sp : Int
  hist : List (List Cell)
abbrev pS (s : Scr) : PyData := .tuple [pRs s.cells, .tuple [.int s.cr, .int s.cc], .int s.pen, .tuple [.int s.top, .int s.bot], .bool s.wraps, .tuple [.int s.sr, .int s.sc, .int s.sp], pRs s.hist]
def m_screen (dr : List Int) (k : Int) : Scr :=
  let rows := if decide (m_mix dr (k + 1) 6 = 1) then 1 + m_mix dr k 12 else 1 + m_mix dr k 4
  let cols := if decide (m_mix dr (k + 3) 5 = 1) then 1 + m_mix dr (k + 2) 40 else 1 + m_mix dr (k + 2) 6
  let top := if decide (m_mix dr (k + 5) 2 = 0) then 0 else m_mix dr (k + 4) rows
  let bot := if decide (m_mix dr (k + 7) 3 = 0) then rows - 1 else top + m_mix dr (k + 6) (rows - top)
  let many := if decide (m_mix dr (k + 14) 8 = 5) then 48 + m_mix dr (k + 13) 3 else m_mix dr (k + 13) 4
  { cells := m_cells dr (k + 20) rows cols, cr := m_mix dr (k + 11) rows, cc := m_mix dr (k + 12) (cols + 1), pen := m_mix dr (k + 15) 16, top := top, bot := bot, wraps := decide (0 < m_mix dr (k + 16) 3),
    sr := m_mix dr (k + 8) rows, sc := m_mix dr (k + 9) (cols + 1), sp := m_mix dr (k + 10) 16,
    hist := (List.range many.toNat).map fun (h : Nat) => (List.range cols.toNat).map fun (c : Nat) => (m_char ((h : Int) + c), Builtin.bitAnd h 15) }
def P_law_screen : List PyData → PyData → Prop := fun ds d => ∃ (dr : List Int) (k : Int), ds = [pI dr, .int k] ∧ d = pS (m_screen dr k)
theorem mix_nn (dr : List Int) (k : Int) {m : Int} (h : 0 < m) : 0 ≤ m_mix dr k m ∧ m_mix dr k m < m := by
  unfold m_mix
  split <;> exact ⟨Int.emod_nonneg _ (by omega), Int.emod_lt_of_pos _ h⟩
theorem x_mix {K : PySem.W.Frag} {ρ : List Sl} {ta tb tc : TE} {dr : List Int} {k m : Int} (h1 : XD K ta ρ (pI dr)) (h2 : XD K tb ρ (.int k)) (h3 : XD K tc ρ (.int m)) (hm : 0 < m) :
    XD K (tCall (spD K 3 P_law_mix) [] E0 (tCons ta (tCons tb (tCons tc tNil)))) ρ (.int (m_mix dr k m)) :=
  xd_call (xa_cons h1 (xa_cons h2 (xa_cons h3 xa_nil))) rfl ⟨dr, k, m, rfl, hm, rfl⟩
theorem x_char {K : PySem.W.Frag} {ρ : List Sl} {ta : TE} {c : Int} (h1 : XD K ta ρ (.int c)) : XD K (tCall (spD K 1 P_law_char) [] E0 (tCons ta tNil)) ρ (.str (m_char c)) :=
  xd_call (xa_cons h1 xa_nil) rfl ⟨c, rfl, rfl⟩

def s_rows (dr : List Int) (k : Int) : Int := if decide (m_mix dr (k + 1) 6 = 1) then 1 + m_mix dr k 12 else 1 + m_mix dr k 4
def s_cols (dr : List Int) (k : Int) : Int := if decide (m_mix dr (k + 3) 5 = 1) then 1 + m_mix dr (k + 2) 40 else 1 + m_mix dr (k + 2) 6
def s_top (dr : List Int) (k : Int) : Int := if decide (m_mix dr (k + 5) 2 = 0) then 0 else m_mix dr (k + 4) (s_rows dr k)
def s_bot (dr : List Int) (k : Int) : Int := if decide (m_mix dr (k + 7) 3 = 0) then s_rows dr k - 1 else s_top dr k + m_mix dr (k + 6) (s_rows dr k - s_top dr k)
def s_many (dr : List Int) (k : Int) : Int := if decide (m_mix dr (k + 14) 8 = 5) then 48 + m_mix dr (k + 13) 3 else m_mix dr (k + 13) 4
theorem s_rows_b (dr : List Int) (k : Int) : 1 ≤ s_rows dr k ∧ s_rows dr k ≤ 12 := by
  unfold s_rows
  have h1 := mix_nn dr k (m := 12) (by decide)
  have h2 := mix_nn dr k (m := 4) (by decide)
  split <;> omega
theorem s_cols_b (dr : List Int) (k : Int) : 1 ≤ s_cols dr k ∧ s_cols dr k ≤ 40 := by
  unfold s_cols
  have h1 := mix_nn dr (k + 2) (m := 40) (by decide)
  have h2 := mix_nn dr (k + 2) (m := 6) (by decide)
  split <;> omega
theorem s_top_b (dr : List Int) (k : Int) : 0 ≤ s_top dr k ∧ s_top dr k < s_rows dr k := by
  unfold s_top
  have h0 := s_rows_b dr k
  have h1 := mix_nn dr (k + 4) (m := s_rows dr k) (by omega)
  split <;> omega
theorem s_bot_b (dr : List Int) (k : Int) : s_top dr k ≤ s_bot dr k ∧ s_bot dr k < s_rows dr k := by
  unfold s_bot
  have h0 := s_top_b dr k
  have h1 := mix_nn dr (k + 6) (m := s_rows dr k - s_top dr k) (by omega)
  split <;> omega
theorem s_many_b (dr : List Int) (k : Int) : 0 ≤ s_many dr k ∧ s_many dr k ≤ 50 := by
  unfold s_many
  have h1 := mix_nn dr (k + 13) (m := 3) (by decide)
  have h2 := mix_nn dr (k + 13) (m := 4) (by decide)
  split <;> omega
def m_hist (many cols : Int) : List (List Cell) := (List.range many.toNat).map fun (h : Nat) => (List.range cols.toNat).map fun (c : Nat) => (m_char ((h : Int) + c), Builtin.bitAnd h 15)
theorem m_screen_eq (dr : List Int) (k : Int) : m_screen dr k = { cells := m_cells dr (k + 20) (s_rows dr k) (s_cols dr k), cr := m_mix dr (k + 11) (s_rows dr k), cc := m_mix dr (k + 12) (s_cols dr k + 1), pen := m_mix dr (k + 15) 16, top := s_top dr k, bot := s_bot dr k, wraps := decide (0 < m_mix dr (k + 16) 3), sr := m_mix dr (k + 8) (s_rows dr k), sc := m_mix dr (k + 9) (s_cols dr k + 1), sp := m_mix dr (k + 10) 16, hist := m_hist (s_many dr k) (s_cols dr k) } := rfl

def P_is_band : List PyData → PyData → Prop := fun ds d => ∃ (a b r : Int), ds = [.tuple [.int a, .int b], .int r] ∧ d = .bool (okBand a b r)
def smallRows (rs : List (List Cell)) : Prop := rs.length ≤ 1000 ∧ ∀ r ∈ rs, r.length ≤ 1000 ∧ ∀ c ∈ r, c.1.length ≤ 1000
def okSize (rs : List (List Cell)) : Bool := (decide (1 ≤ (rs.length : Int)) && decide ((rs.length : Int) ≤ 12)) && (decide (1 ≤ ((rs.getD 0 []).length : Int)) && decide (((rs.getD 0 []).length : Int) ≤ 40))
def okScr (s : Scr) : Bool := okSize s.cells && (s.cells.all (okRow (s.cells.getD 0 []).length) && (okCur s.cr s.cc s.cells.length (s.cells.getD 0 []).length && (isNum (.int s.pen) 0 15 && (okBand s.top s.bot s.cells.length &&
  (okCur s.sr s.sc s.cells.length (s.cells.getD 0 []).length && (isNum (.int s.sp) 0 15 && (decide ((s.hist.length : Int) ≤ 50) && s.hist.all (okRow (s.cells.getD 0 []).length))))))))
def P_is_screen : List PyData → PyData → Prop := fun ds d => ∃ s : Scr, ds = [pS s] ∧ s.cells ≠ [] ∧ smallRows s.cells ∧ smallRows s.hist ∧ d = .bool (okScr s)
def P_blank_cells : List PyData → PyData → Prop := fun ds d => ∃ n p : Int, ds = [.int n, .int p] ∧ 0 ≤ n ∧ n ≤ 50000 ∧ d = pR (List.replicate n.toNat (" ", p))
def P_copied_rows : List PyData → PyData → Prop := fun ds d => ∃ rs : List (List Cell), ds = [pRs rs] ∧ rs.length ≤ 50000 ∧ d = pRs rs
def startScr (r c : Int) : Scr := { cells := List.replicate r.toNat (List.replicate c.toNat ((" ", 0) : Cell)), cr := 0, cc := 0, pen := 0, top := 0, bot := r - 1, wraps := true, sr := 0, sc := 0, sp := 0, hist := [] }
def P_untested_start : List PyData → PyData → Prop := fun ds d => ∃ r c : Int, ds = [.int r, .int c] ∧ 0 ≤ r ∧ r ≤ 1000 ∧ 0 ≤ c ∧ c ≤ 1000 ∧ d = pS (startScr r c)
def rowText (r : List Cell) : Str := catAll (r.map (·.1))
def P_row_text : List PyData → PyData → Prop := fun ds d => ∃ r : List Cell, ds = [pR r] ∧ r.length ≤ 1000 ∧ (∀ c ∈ r, c.1.length ≤ 1) ∧ d = .str (rowText r)
def shownText (s : Scr) : Str := catAll (s.cells.map fun r => rowText r ++ "\n")
def P_shown_text : List PyData → PyData → Prop := fun ds d => ∃ s : Scr, ds = [pS s] ∧ s.cells.length ≤ 1000 ∧ (∀ r ∈ s.cells, r.length ≤ 1000 ∧ ∀ c ∈ r, c.1.length ≤ 1) ∧ d = .str (shownText s)

theorem str_len (i : Int) (h : i.natAbs.log2 < 1900) : ((toString i : String) : Str).length ≤ 1901 := by
  have := int_text_length_le (a := i) (k := 1900) (by decide) h
  show (Str.ofString (toString i)).length ≤ 1901
  rw [PySem.ofString_length]
  omega
theorem sc_ErrInit : FnScope ["self", "at"] ["self", "at"] (defScope s_ScreenError_init) := ⟨rfl, rfl, rfl, by decide +kernel, rfl, by decide +kernel, by decide +kernel⟩
theorem ok_ErrInit {Pg : Program} {w : World} {K : PySem.W.Frag} {mg : Str → Option Value} {base : Heap} (T : Txt K mg) {f : Addr} {fd : FuncData}
    (F : FunD K "__init__" "ScreenError.__init__" (defArgs s_ScreenError_init) (defBody s_ScreenError_init) (defScope s_ScreenError_init) [] [] f fd) : FnOk Pg w K mg base CX0 1 f fd ["self", "at"] (spErrI K) := by
  refine F.ok sc_ErrInit (fun vs H Q E h => by obtain ⟨a, C, i, rfl, _⟩ := h; rfl) (fun cdv A outer s H vs Q E hr h => ⟨_, PSs.nox (pss_cons (ps_expr (pe_veinit (by rfl) T.f_ValueError T.vV (pa_cons (pv 0) (pa_cons (pe_joined (.cons pe_str (.cons (pe_fmt (pv 1)) .nil))) pa_nil)))) (pss_one (ps_ost (pv 0) (pv 1)))), ?_⟩)
  obtain ⟨a, C, i, rfl, ox, hno, ha, hi, k⟩ := h
  have h1 := str_len i hi
  have h2 : ("at " : Str).length = 3 := by decide +kernel
  have h3 : ∀ y : Str, (Str.empty ++ y).length = y.length := fun y => by rw [empty_app]
  refine ⟨.ref a, rfl, ("at " : Str), rfl, ?_, .int i, rfl, .inr ⟨i, rfl, by omega, toString i, rfl, ?_, a, C, _, rfl, by simp, ox, ha, .int i, rfl, .ref a, rfl, a, C, rfl, ox, hno, .inl ⟨ha, fun dx h1 h2 => k dx h1 h2⟩⟩⟩
  · rw [h3, h2]; decide
  · rw [len_app, h3, h2]
    exact Nat.le_trans (Nat.add_le_add_left h1 _) (by decide)
def PX_start_screen (K : PySem.W.Frag) : List PyData → Addr → Int → Prop := fun ds C i => C = He.ga K "OutOfRange" ∧ ∃ r c : Int, ds = [.int r, .int c] ∧ ((¬ (1 ≤ r ∧ r ≤ 12) ∧ i = 0) ∨ ((1 ≤ r ∧ r ≤ 12) ∧ ¬ (1 ≤ c ∧ c ≤ 40) ∧ i = 1))
def P_start_screen : List PyData → PyData → Prop := fun ds d => ∃ r c : Int, ds = [.int r, .int c] ∧ 1 ≤ r ∧ r ≤ 12 ∧ 1 ≤ c ∧ c ≤ 40 ∧ d = pS (startScr r c)

abbrev pP (p : Int × Int) : PyData := .tuple [.int p.1, .int p.2]
abbrev pT (p : Int × Int × Int) : PyData := .tuple [.int p.1, .int p.2.1, .int p.2.2]
def oddCells : List Cell := [("", 0), ("ab", 0), ("\n", 1), ("a", 16), ("a", -1)]
def oddCurs (r c : Int) : List (Int × Int) := [(r, 0), (0, c + 1), (-1, 0), (0, -1)]
def oddBands (r : Int) : List (Int × Int) := [(0, r), (-1, 0), (r, r), (1, 0)]
def oddSaved (r c : Int) : List (Int × Int × Int) := [(r, 0, 0), (0, c + 1, 0), (0, 0, 16), (-1, 0, 0), (0, 0, -1)]
def spLine (c : Int) (cells : List (List Cell)) (r k : Int) : List Cell := (cells.getD r.toNat []).take k.toNat ++ [oddCells.getD (c / 11 % 5).toNat ("", 0)] ++ (cells.getD r.toNat []).drop (k + 1).toNat
def spCells (c : Int) (cells : List (List Cell)) (r k : Int) : List (List Cell) := cells.take r.toNat ++ [spLine c cells r k] ++ cells.drop (r + 1).toNat
def m_sp (w c : Int) (s : Scr) (rows cols : Int) : Scr :=
  if w < 3 then { s with cells := spCells c s.cells (c % rows) (c / 7 % cols) }
  else if w = 3 then { s with cells := s.cells ++ [s.cells.getD 0 [] ++ [(("a", 0) : Cell)]] }
  else if w = 4 then { s with cr := ((oddCurs rows cols).getD (c % 4).toNat (0, 0)).1, cc := ((oddCurs rows cols).getD (c % 4).toNat (0, 0)).2 }
  else if w = 5 then { s with pen := [16, -1].getD (c % 2).toNat 0 }
  else if w = 6 then { s with top := ((oddBands rows).getD (c % 4).toNat (0, 0)).1, bot := ((oddBands rows).getD (c % 4).toNat (0, 0)).2 }
  else if w = 7 then { s with sr := ((oddSaved rows cols).getD (c % 5).toNat (0, 0, 0)).1, sc := ((oddSaved rows cols).getD (c % 5).toNat (0, 0, 0)).2.1, sp := ((oddSaved rows cols).getD (c % 5).toNat (0, 0, 0)).2.2 }
  else if w = 8 then { s with hist := (List.range (51 + c % 3).toNat).map fun _ => s.cells.getD 0 [] }
  else if w = 9 then { s with hist := s.hist.take 49 ++ [s.cells.getD 0 [] ++ [(("b", 1) : Cell)]] }
  else if w = 10 then { cells := (List.range 13).map fun _ => s.cells.getD 0 [], cr := 0, cc := 0, pen := 0, top := 0, bot := 0, wraps := s.wraps, sr := 0, sc := 0, sp := 0, hist := [] }
  else { cells := [(List.range 41).map fun _ => (("a", 0) : Cell)], cr := 0, cc := 0, pen := 0, top := 0, bot := 0, wraps := s.wraps, sr := 0, sc := 0, sp := 0, hist := [] }
def m_spoilt (dr : List Int) (s : Scr) : Scr := m_sp (m_at dr 0 12) (m_at dr 1 60000) s s.cells.length (s.cells.getD 0 []).length
def evenScr (s : Scr) : Prop := s.cells ≠ [] ∧ s.cells.length ≤ 100 ∧ (∀ r ∈ s.cells, r.length = (s.cells.getD 0 []).length) ∧ 1 ≤ (s.cells.getD 0 []).length ∧ (s.cells.getD 0 []).length ≤ 100 ∧ s.hist.length ≤ 100
def P_law_spoilt : List PyData → PyData → Prop := fun ds d => ∃ (dr : List Int) (s : Scr), ds = [pI dr, pS s] ∧ evenScr s ∧ d = pS (m_spoilt dr s)
theorem x_at {K : PySem.W.Frag} {ρ : List Sl} {ta tb tc : TE} {dr : List Int} {k m : Int} (h1 : XD K ta ρ (pI dr)) (h2 : XD K tb ρ (.int k)) (h3 : XD K tc ρ (.int m)) (hk : 0 ≤ k) (hm : 0 < m) :
    XD K (tCall (spD K 3 P_law_at) [] E0 (tCons ta (tCons tb (tCons tc tNil)))) ρ (.int (m_at dr k m)) :=
  xd_call (xa_cons h1 (xa_cons h2 (xa_cons h3 xa_nil))) rfl ⟨dr, k, m, rfl, hk, hm, rfl⟩
theorem at_b (dr : List Int) (k : Int) {m : Int} (hm : 0 < m) : 0 ≤ m_at dr k m ∧ m_at dr k m < m := by
  unfold m_at
  split
  · exact ⟨Int.emod_nonneg _ (by omega), Int.emod_lt_of_pos _ hm⟩
  · omega
theorem getD_mem {α : Type} {xs : List α} {n : Nat} {d : α} (h : n < xs.length) : xs.getD n d ∈ xs := by
  rw [List.getD_eq_getElem?_getD, List.getElem?_eq_getElem h]
  exact List.getElem_mem h

theorem sc_law_at : FnScope ["draws", "k", "many"] ["draws", "k", "many"] (defScope s_law_at) := ⟨rfl, rfl, rfl, by decide +kernel, rfl, by decide +kernel, by decide +kernel⟩
theorem ok_law_at {Pg : Program} {w : World} {K : PySem.W.Frag} {mg : Str → Option Value} {base : Heap} (T : Txt K mg) {f : Addr} {fd : FuncData} (F : FnP K "_law_at" s_law_at f fd) :
    FnOk Pg w K mg base CX0 1 f fd ["draws", "k", "many"] (spD K 3 P_law_at) := by
  refine F.ok sc_law_at (fun vs H Q E h => h.1) (fun cdv A outer s H vs Q E hr h => ?_)
  have hu := hr.units
  refine ⟨_, PSs.nox (pss_cons (ps_if (pt_cmpR op_lt (pv 1) (pe_callB call_len (by rfl) T.f_len boot_len (pa_cons (pv 0) pa_nil)) (nomark _)) (pss_one (ps_ret (pe_op op_mod (pe_callTy call_int1 (by rfl) T.f_int PyProof.Rows.boot_int (pa_cons (pe_ix ix_list (pv 0) (pv 1) (fun _ _ => rfl)) pa_nil)) (pv 2)))) pss_nil)
      (pss_one (ps_ret pe_int))), body_D (N := ["draws", "k", "many"]) (by decide) h fun ds d hl hP => ?_⟩

  obtain ⟨dr, k, many, rfl, hk, hm, rfl⟩ := hP
  refine sd_ifr (xt_test (xd_B0 (xd_var rfl) (xd_cb (xa_cons (xd_var rfl) xa_nil) rc_lenM))) (fun hb => sd_ret (xd_I (xd_cb (xa_cons (xd_ixM 0 (xd_var rfl) (xd_var rfl) ⟨hk, by simpa using hb⟩) xa_nil) rc_int) (xd_var rfl) hm) ?_) (fun hb => sd_ret xd_int ?_)
  · unfold m_at; rw [if_pos (by simpa using hb)]
  · unfold m_at; rw [if_neg (by simpa using hb)]


theorem sc_law_mix : FnScope ["draws", "k", "many", "value"] ["draws", "k", "many"] (defScope s_law_mix) := ⟨rfl, rfl, rfl, by decide +kernel, rfl, by decide +kernel, by decide +kernel⟩
theorem ok_law_mix {Pg : Program} {w : World} {K : PySem.W.Frag} {mg : Str → Option Value} {base : Heap} (T : Txt K mg) {f : Addr} {fd : FuncData} (F : FnP K "_law_mix" s_law_mix f fd) :
    FnOk Pg w K mg base CX0 1 f fd ["draws", "k", "many"] (spD K 3 P_law_mix) := by
  refine F.ok sc_law_mix (fun vs H Q E h => h.1) (fun cdv A outer s H vs Q E hr h => ?_)
  have hu := hr.units
  refine ⟨_, PSs.nox (pss_cons (ps_set (i := 3) sc_law_mix.nd rfl (Or.inl rfl) pe_int)
      (pss_cons (ps_if (pt_cmpR op_gt (pe_callB call_len (by rfl) T.f_len boot_len (pa_cons (pv 0) pa_nil)) pe_int (nomark _)) (pss_one (ps_set (i := 3) sc_law_mix.nd rfl (Or.inl rfl) (pe_ix ix_list (pv 0) (pe_op op_mod (pe_callTy call_int1 (by rfl) T.f_int PyProof.Rows.boot_int (pa_cons (pv 1) pa_nil)) (pe_callB call_len (by rfl) T.f_len boot_len (pa_cons (pv 0) pa_nil))) (fun _ _ => rfl)))) pss_nil)
      (pss_cons (ps_if (pt_cmpR op_lt (pv 1) (pe_callB call_len (by rfl) T.f_len boot_len (pa_cons (pv 0) pa_nil)) (nomark _)) (pss_one (ps_ret (pe_op op_mod (pe_callTy call_int1 (by rfl) T.f_int PyProof.Rows.boot_int (pa_cons (pv 3) pa_nil)) (pv 2)))) pss_nil)
      (pss_one (ps_ret (pe_op op_mod (pe_callTy call_int1 (by rfl) T.f_int PyProof.Rows.boot_int (pa_cons (pe_op op_fdiv (pe_callTy call_int1 (by rfl) T.f_int PyProof.Rows.boot_int (pa_cons (pe_op op_add (pe_op op_mul (pv 3) pe_int) (pe_op op_mul (pv 1) pe_int)) pa_nil)) pe_int) pa_nil)) (pv 2))))))), body_D (N := ["draws", "k", "many", "value"]) (by decide) h fun ds d hl hP => ?_⟩

  obtain ⟨dr, k, many, rfl, hm, rfl⟩ := hP
  refine sd_setq xd_int <| sd_seq (M := fun r => r = [.dt (pI dr), .dt (.int k), .dt (.int many), .dt (.int (if 0 < (dr.length : Int) then dr.getD (k % dr.length).toNat 0 else 0))])
    (sd_if (xt_test (xd_B0 (xd_cb (xa_cons (xd_var rfl) xa_nil) rc_lenM) xd_int)) (fun hb => sd_asg (xd_ixM 0 (xd_var rfl) (xd_I (xd_cb (xa_cons (xd_var rfl) xa_nil) rc_int) (xd_cb (xa_cons (xd_var rfl) xa_nil) rc_lenM) ?_) ⟨?_, ?_⟩) (xg_name 3) ?_) (fun hb => sd_next ?_)) ?_
  · simpa using hb
  · have : 0 < (dr.length : Int) := by simpa using hb
    exact Int.emod_nonneg _ (by omega)
  · have : 0 < (dr.length : Int) := by simpa using hb
    exact Int.emod_lt_of_pos _ this
  · rw [if_pos (by simpa using hb)]; rfl
  · rw [if_neg (by simpa using hb)]; rfl
  · rintro _ rfl
    refine sd_ifr (xt_test (xd_B0 (xd_var rfl) (xd_cb (xa_cons (xd_var rfl) xa_nil) rc_lenM))) (fun hb => sd_ret (xd_I (xd_cb (xa_cons (xd_var rfl) xa_nil) rc_int) (xd_var rfl) hm) ?_)
      (fun hb => sd_ret (xd_I (xd_cb (xa_cons (xd_I (xd_cb (xa_cons (xd_I0 (xd_I (xd_var rfl) xd_int (.inr ⟨by decide, by decide⟩)) (xd_I (xd_var rfl) xd_int (.inr ⟨by decide, by decide⟩))) xa_nil) rc_int) xd_int ⟨by decide, by decide⟩) xa_nil) rc_int) (xd_var rfl) hm) ?_)
    · unfold m_mix; rw [if_pos (show k < (dr.length : Int) by simpa using hb)]
    · unfold m_mix; rw [if_neg (show ¬ k < (dr.length : Int) by simpa using hb)]


theorem sc_law_char : FnScope ["cell", "table"] ["cell"] (defScope s_law_char) := ⟨rfl, rfl, rfl, by decide +kernel, rfl, by decide +kernel, by decide +kernel⟩
theorem ok_law_char {Pg : Program} {w : World} {K : PySem.W.Frag} {mg : Str → Option Value} {base : Heap} (T : Txt K mg) {f : Addr} {fd : FuncData} (F : FnP K "_law_char" s_law_char f fd) :
    FnOk Pg w K mg base CX0 1 f fd ["cell"] (spD K 1 P_law_char) := by
  refine F.ok sc_law_char (fun vs H Q E h => h.1) (fun cdv A outer s H vs Q E hr h => ?_)
  have hu := hr.units
  refine ⟨_, PSs.nox (pss_cons (ps_set (i := 1) sc_law_char.nd rfl (Or.inl rfl) pe_str)
      (pss_one (ps_ret (pe_ix ix_str (pv 1) (pe_op op_mod (pe_callTy call_int1 (by rfl) T.f_int PyProof.Rows.boot_int (pa_cons (pv 0) pa_nil)) pe_int) (fun _ _ => rfl))))), body_D (N := ["cell", "table"]) (by decide) h fun ds d hl hP => ?_⟩

  obtain ⟨cell, rfl, rfl⟩ := hP
  refine sd_setq xd_str <| sd_ret (xd_ixS (x := charTab) (xd_var rfl) (xd_I (xd_cb (xa_cons (xd_var rfl) xa_nil) rc_int) xd_int (by decide)) (by decide +kernel) (atI_in 0 ?_)) rfl
  have : charTab.cps.toList.length = 94 := by decide +kernel
  rw [this]
  omega


theorem sc_law_draws : FnScope ["script", "draws", "k", "rest", "turn", "mixed"] ["script"] (defScope s_law_draws) := ⟨rfl, rfl, rfl, by decide +kernel, rfl, by decide +kernel, by decide +kernel⟩
theorem ok_law_draws {Pg : Program} {w : World} {K : PySem.W.Frag} {mg : Str → Option Value} {base : Heap} (T : Txt K mg) {f : Addr} {fd : FuncData} (F : FnP K "_law_draws" s_law_draws f fd) :
    FnOk Pg w K mg base CX0 1 f fd ["script"] (spQ K P_law_draws) := by
  refine F.ok sc_law_draws (fun vs H Q E h => h.1) (fun cdv A outer s H vs Q E hr h => ?_)
  have hu := hr.units
  refine ⟨_, PSs.nox (pss_cons (ps_set (i := 1) sc_law_draws.nd rfl (Or.inl rfl) (pe_lst pa_nil))
      (pss_cons (ps_for PassesOwn.never rfl (pi_range1 rfl T.f_range (pa_cons (pe_callB (call_min2 rfl) (by rfl) T.f_min PyProof.Rows.boot_min (pa_cons pe_int (pa_cons (pe_callB call_len (by rfl) T.f_len boot_len (pa_cons (pv 0) pa_nil)) pa_nil))) pa_nil)) (pg_name (i := 2) sc_law_draws.nd rfl (Or.inl rfl))
        (pss_cons (ps_set (i := 3) sc_law_draws.nd rfl (Or.inl rfl) (pe_callB call_abs (by rfl) T.f_abs PyProof.Rows.boot_abs (pa_cons (pe_ix ix_list (pv 0) (pv 2) (fun _ _ => rfl)) pa_nil)))
      (pss_one (ps_if (pt_cmpR op_ge (pv 3) (pe_op op_pow pe_int pe_int) (nomark _)) (pss_one (ps_for PassesOwn.never rfl (pi_range1 rfl T.f_range (pa_cons pe_int pa_nil)) (pg_name (i := 4) sc_law_draws.nd rfl (Or.inl rfl))
        (pss_one (ps_if (pt_cmpR op_gt (pv 3) pe_int (nomark _)) (pss_cons (ps_expr (pe_bm PySem.F.plainAttrs_list PySem.F.slot_list_append PySem.F.type_list_append mt_append (pv 1) (pa_cons (pe_op op_mod (pe_callTy call_int1 (by rfl) T.f_int PyProof.Rows.boot_int (pa_cons (pv 3) pa_nil)) pe_int) pa_nil)))
      (pss_one (ps_set (i := 3) sc_law_draws.nd rfl (Or.inl rfl) (pe_op op_fdiv (pv 3) pe_int)))) pss_nil)))) (pss_cons (ps_set (i := 5) sc_law_draws.nd rfl (Or.inl rfl) (pe_op op_mod (pe_callTy call_int1 (by rfl) T.f_int PyProof.Rows.boot_int (pa_cons (pe_op op_add (pe_op op_mul (pv 3) pe_int) (pe_op op_mul (pe_op op_add (pv 2) pe_int) pe_int)) pa_nil)) pe_int))
      (pss_cons (ps_set (i := 5) sc_law_draws.nd rfl (Or.inl rfl) (pe_op op_mod (pe_callTy call_int1 (by rfl) T.f_int PyProof.Rows.boot_int (pa_cons (pe_op op_add (pe_op op_add (pe_op op_mul (pv 5) pe_int) (pe_op op_mul pe_int (pv 2))) pe_int) pa_nil)) pe_int))
      (pss_cons (ps_expr (pe_bm PySem.F.plainAttrs_list PySem.F.slot_list_append PySem.F.type_list_append mt_append (pv 1) (pa_cons (pe_op op_mod (pe_callTy call_int1 (by rfl) T.f_int PyProof.Rows.boot_int (pa_cons (pv 5) pa_nil)) pe_int) pa_nil)))
      (pss_one (ps_expr (pe_bm PySem.F.plainAttrs_list PySem.F.slot_list_append PySem.F.type_list_append mt_append (pv 1) (pa_cons (pe_op op_mod (pe_callTy call_int1 (by rfl) T.f_int PyProof.Rows.boot_int (pa_cons (pe_op op_fdiv (pv 5) pe_int) pa_nil)) pe_int) pa_nil)))))))))))
      (pss_one (ps_ret (pv 1))))), body_Q (N := ["script", "draws", "k", "rest", "turn", "mixed"]) (by decide) h fun ns d hP => ?_⟩

  obtain ⟨hn, rfl⟩ := hP
  have hmin : min 63 (ns.length : Int) = ns.length := by omega
  refine sd_setOq (xo_lst xa_nil (by decide)) <|
    sd_forq (fun i ρ' => ∃ s2 s3 s4 s5 : Sl, ρ' = [.sq (ns.map V.int), .ow ((drawsTo ns i).map .int), s2, s3, s4, s5]) (xi_rng1 (xa_cons ((xd_cb (xa_cons xd_int (xa_cons ((xd_lenQ rfl).is (show _ = PyData.int ns.length by rw [List.length_map])) xa_nil)) rc_min).is (congrArg PyData.int hmin)) xa_nil) (by omega)) ⟨_, _, _, _, rfl⟩
      (fun i ρ1 hi hI => ?_) (fun ρ1 hI => ?_)
  · obtain ⟨s2, s3, s4, s5, rfl⟩ := hI
    have hi' : i < ns.length := by simpa using hi
    have hlen := drawsTo_len ns i
    have hfin : ∀ z, (drawsTo ns i).map PyData.int ++ (draw1 (ns.getD i 0) i).map PyData.int = z → (drawsTo ns (i + 1)).map PyData.int = z := fun z e => by
      rw [drawsTo_succ, List.map_append]; exact e
    refine ⟨_, _, xg_name 2, sd_setq (xd_cb (xa_cons (xd_ixQ rfl (xd_var rfl) ⟨Int.natCast_nonneg i, by omega⟩) xa_nil) rc_abs) ?_⟩
    rw [show ((i : Int)).toNat = i from rfl]
    refine sd_if (b := decide (10 ^ 18 ≤ absI (ns.getD i 0))) (xt_test (xd_B0 (xd_var rfl) (xd_I xd_int xd_int ⟨by decide, by decide, by decide⟩))) (fun hb => ?_) (fun hb => ?_)
    · have e1 : draw1 (ns.getD i 0) i = drawBig 60 (absI (ns.getD i 0)) := by unfold draw1; rw [if_pos (of_decide_eq_true hb)]
      refine sd_for (fun j ρ' => ∃ (acc : List Int) (r : Int) (s4 : Sl), drawBig 60 (absI (ns.getD i 0)) = acc ++ drawBig (60 - j) r ∧ acc.length ≤ j ∧ ρ' = [.sq (ns.map V.int), .ow ((drawsTo ns i).map .int ++ acc.map .int), .dt (.int i), .dt (.int r), s4, s5])
        (xi_rng1 (n := 60) (xa_cons xd_int xa_nil) (by decide)) ⟨[], absI (ns.getD i 0), s4, rfl, Nat.le_refl _, by rw [List.map_nil, List.append_nil]; rfl⟩ (fun j ρ2 hj hJ => ?_) (fun ρ2 hJ => ?_)
      · obtain ⟨acc, r, s4', e2, hl, rfl⟩ := hJ
        have hj' : j < 60 := hj
        refine ⟨_, _, xg_name 4, sd_if (xt_test (xd_B0 (xd_var rfl) xd_int)) (fun hr => ?_) (fun hr => sd_next ⟨acc, r, _, ?_, by omega, rfl⟩)⟩
        · refine sd_seq (M := fun q => q = [.sq (ns.map V.int), .ow ((drawsTo ns i).map .int ++ (acc ++ [r % 65536]).map .int), .dt (.int i), .dt (.int r), .dt (.int j), s5]) (sd_app rfl (xd_I (xd_cb (xa_cons (xd_var rfl) xa_nil) rc_int) xd_int (by decide)) ?_ ?_) ?_
          · simp only [List.length_append, List.length_map]; omega
          · rw [List.map_append, ← List.append_assoc]; rfl
          · rintro _ rfl
            refine sd_asg (xd_I (xd_var rfl) xd_int ⟨by decide, by decide⟩) (xg_name 3) ⟨acc ++ [r % 65536], r / 65536, .dt (.int j), ?_, by rw [List.length_append, List.length_singleton]; omega, rfl⟩
            rw [e2, show 60 - j = (60 - (j + 1)) + 1 from by omega]
            have hr' : 0 < r := by simpa using hr
            rw [drawBig, if_pos hr', List.append_assoc]
            rfl
        · rw [e2, show 60 - j = (60 - (j + 1)) + 1 from by omega]
          have hr' : ¬ 0 < r := by simpa using hr
          rw [drawBig, if_neg hr']
      · obtain ⟨acc, r, s4', e2, hl, rfl⟩ := hJ
        refine ⟨.dt (.int i), .dt (.int r), s4', s5, ?_⟩
        rw [hfin _ rfl, e1, e2]
        simp [drawBig]
    · have e1 : draw1 (ns.getD i 0) i = [mixed (absI (ns.getD i 0)) i % 65536, (mixed (absI (ns.getD i 0)) i / 65536) % 32768] := by
        unfold draw1; rw [if_neg (of_decide_eq_false hb)]
      refine sd_setq (xd_I (xd_cb (xa_cons (xd_I0 (xd_I (xd_var rfl) xd_int (.inr ⟨by decide, by decide⟩)) (xd_I (xd_I0 (xd_var rfl) xd_int) xd_int (.inr ⟨by decide, by decide⟩))) xa_nil) rc_int) xd_int (by decide)) <|
        sd_setq (xd_I (xd_cb (xa_cons (xd_I0 (xd_I0 (xd_I (xd_var rfl) xd_int (.inr ⟨by decide, by decide⟩)) (xd_I xd_int (xd_var rfl) (.inl ⟨by decide, by decide⟩))) xd_int) xa_nil) rc_int) xd_int (by decide)) <|
        sd_seq (M := fun q => q = [.sq (ns.map V.int), .ow ((drawsTo ns i).map .int ++ [.int (mixed (absI (ns.getD i 0)) i % 65536)]), .dt (.int i), .dt (.int (absI (ns.getD i 0))), s4, .dt (.int (mixed (absI (ns.getD i 0)) i))])
          (sd_app rfl (xd_I (xd_cb (xa_cons (xd_var rfl) xa_nil) rc_int) xd_int (by decide)) (by rw [List.length_map]; omega) rfl) ?_
      rintro _ rfl
      refine sd_app rfl (xd_I (xd_cb (xa_cons (xd_I (xd_var rfl) xd_int ⟨by decide, by decide⟩) xa_nil) rc_int) xd_int (by decide)) ?_ ⟨.dt (.int i), .dt (.int (absI (ns.getD i 0))), s4, .dt (.int (mixed (absI (ns.getD i 0)) i)), ?_⟩
      · simp only [List.length_append, List.length_map, List.length_singleton]; omega
      · rw [hfin _ rfl, e1]
        simp only [List.map_cons, List.map_nil, List.append_assoc]
        rfl
  · obtain ⟨s2, s3, s4, s5, rfl⟩ := hI
    refine sd_frz 1 rfl (sd_ret (xd_var rfl) ?_)
    rw [show (ns.length : Int).toNat = ns.length from rfl]
    rfl


theorem sc_law_cells : FnScope ["draws", "k", "rows", "columns", "out", "r", "row", "c", "cell"] ["draws", "k", "rows", "columns"] (defScope s_law_cells) := ⟨rfl, rfl, rfl, by decide +kernel, rfl, by decide +kernel, by decide +kernel⟩
theorem ok_law_cells {Pg : Program} {w : World} {K : PySem.W.Frag} {mg : Str → Option Value} {base : Heap} (T : Txt K mg) (C_law_char : Cal Pg w K mg base "_law_char" 1 1 P_law_char) (C_law_mix : Cal Pg w K mg base "_law_mix" 1 3 P_law_mix) {f : Addr} {fd : FuncData} (F : FnP K "_law_cells" s_law_cells f fd) :
    FnOk Pg w K mg base CX0 2 f fd ["draws", "k", "rows", "columns"] (spD K 4 P_law_cells) := by
  refine F.ok sc_law_cells (fun vs H Q E h => h.1) (fun cdv A outer s H vs Q E hr h => ?_)
  have hu := hr.units
  refine ⟨_, PSs.nox (pss_cons (ps_set (i := 4) sc_law_cells.nd rfl (Or.inl rfl) (pe_lst pa_nil))
      (pss_cons (ps_for PassesOwn.never rfl (pi_range1 rfl T.f_range (pa_cons (pv 2) pa_nil)) (pg_name (i := 5) sc_law_cells.nd rfl (Or.inl rfl))
        (pss_cons (ps_set (i := 6) sc_law_cells.nd rfl (Or.inl rfl) (pe_lst pa_nil))
      (pss_cons (ps_for PassesOwn.never rfl (pi_range1 rfl T.f_range (pa_cons (pv 3) pa_nil)) (pg_name (i := 7) sc_law_cells.nd rfl (Or.inl rfl))
        (pss_cons (ps_set (i := 8) sc_law_cells.nd rfl (Or.inl rfl) (pe_callC C_law_mix (hr.mono (by decide)) (by rfl) (pa_cons (pv 0) (pa_cons (pe_op op_add (pe_op op_add (pv 1) (pe_op op_mul (pv 5) (pv 3))) (pv 7)) (pa_cons pe_int pa_nil)))))
      (pss_one (ps_if (pt_cmpR op_eq (pe_op op_mod (pe_callTy call_int1 (by rfl) T.f_int PyProof.Rows.boot_int (pa_cons (pv 8) pa_nil)) pe_int) pe_int (nomark _)) (pss_one (ps_expr (pe_bm PySem.F.plainAttrs_list PySem.F.slot_list_append PySem.F.type_list_append mt_append (pv 6) (pa_cons (pe_tup (pa_cons pe_str (pa_cons (pe_op op_mod (pe_callTy call_int1 (by rfl) T.f_int PyProof.Rows.boot_int (pa_cons (pe_op op_fdiv (pv 8) pe_int) pa_nil)) pe_int) pa_nil))) pa_nil)))) (pss_one (ps_expr (pe_bm PySem.F.plainAttrs_list PySem.F.slot_list_append PySem.F.type_list_append mt_append (pv 6) (pa_cons (pe_tup (pa_cons (pe_callC C_law_char (hr.mono (by decide)) (by rfl) (pa_cons (pe_callTy call_int1 (by rfl) T.f_int PyProof.Rows.boot_int (pa_cons (pe_op op_fdiv (pv 8) pe_int) pa_nil)) pa_nil)) (pa_cons (pe_op op_mod (pe_callTy call_int1 (by rfl) T.f_int PyProof.Rows.boot_int (pa_cons (pe_op op_fdiv (pv 8) pe_int) pa_nil)) pe_int) pa_nil))) pa_nil))))))))
      (pss_one (ps_expr (pe_bm PySem.F.plainAttrs_list PySem.F.slot_list_append PySem.F.type_list_append mt_append (pv 4) (pa_cons (pv 6) pa_nil)))))))
      (pss_one (ps_ret (pv 4))))), body_D (N := ["draws", "k", "rows", "columns", "out", "r", "row", "c", "cell"]) (by decide) h fun ds d hl hP => ?_⟩

  obtain ⟨dr, k, r, c, rfl, hr0, hr1, hc0, hc1, rfl⟩ := hP
  refine sd_setOq (xo_lst xa_nil (by decide)) <|
    sd_forq (fun i ρ' => ∃ s5 s6 s7 s8 : Sl, ρ' = [.dt (pI dr), .dt (.int k), .dt (.int r), .dt (.int c), .ow (((List.range i).map fun i => m_row dr k c i c.toNat).map pR), s5, s6, s7, s8]) (xi_rng1 (xa_cons (xd_var rfl) xa_nil) (by omega)) ⟨_, _, _, _, rfl⟩
      (fun i ρ1 hi hI => ?_) (fun ρ1 hI => ?_)
  · obtain ⟨s5, s6, s7, s8, rfl⟩ := hI
    refine ⟨_, _, xg_name 5, sd_setOq (xo_lst xa_nil (by decide)) <| sd_forq (fun j ρ' => ∃ s7 s8 : Sl, ρ' = [.dt (pI dr), .dt (.int k), .dt (.int r), .dt (.int c), .ow (((List.range i).map fun i => m_row dr k c i c.toNat).map pR), .dt (.int i), .ow ((m_row dr k c i j).map pC), s7, s8])
      (xi_rng1 (xa_cons (xd_var rfl) xa_nil) (by omega)) ⟨_, _, rfl⟩ (fun j ρ2 hj hJ => ?_) (fun ρ2 hJ => ?_)⟩
    · obtain ⟨s7', s8', rfl⟩ := hJ
      refine ⟨_, _, xg_name 7, sd_setq (x_mix (xd_var rfl) (xd_I0 (xd_I0 (xd_var rfl) (xd_I (xd_var rfl) (xd_var rfl) (.inr ⟨by omega, by omega⟩))) (xd_var rfl)) xd_int (by decide)) ?_⟩
      have hm : m_row dr k c i (j + 1) = m_row dr k c i j ++ [cellOf (m_mix dr (k + i * c + j) 9000)] := by
        unfold m_row
        rw [List.range_succ, List.map_append]
        rfl
      have hl : ((m_row dr k c i j).map pC).length < 100000 := by
        unfold m_row
        simp only [List.length_map, List.length_range]
        omega
      refine sd_if (xt_test (xd_eqI (xd_I (xd_cb (xa_cons (xd_var rfl) xa_nil) rc_int) xd_int (by decide)) xd_int)) (fun hb => ?_) (fun hb => ?_)
      · refine sd_app rfl (xd_tup (xa_cons xd_str (xa_cons (xd_I (xd_cb (xa_cons (xd_I (xd_var rfl) xd_int ⟨by decide, by decide⟩) xa_nil) rc_int) xd_int (by decide)) xa_nil)) (by simp)) hl ⟨.dt (.int j), .dt (.int (m_mix dr (k + i * c + j) 9000)), ?_⟩
        rw [hm, List.map_append]
        have : cellOf (m_mix dr (k + i * c + j) 9000) = ((" ", (m_mix dr (k + i * c + j) 9000 / 3) % 2) : Cell) := if_pos (of_decide_eq_true hb)
        rw [this]
        rfl
      · refine sd_app rfl (xd_tup (xa_cons (x_char (xd_cb (xa_cons (xd_I (xd_var rfl) xd_int ⟨by decide, by decide⟩) xa_nil) rc_int)) (xa_cons (xd_I (xd_cb (xa_cons (xd_I (xd_var rfl) xd_int ⟨by decide, by decide⟩) xa_nil) rc_int) xd_int (by decide)) xa_nil)) (by simp)) hl ⟨.dt (.int j), .dt (.int (m_mix dr (k + i * c + j) 9000)), ?_⟩
        rw [hm, List.map_append]
        have : cellOf (m_mix dr (k + i * c + j) 9000) = (m_char (m_mix dr (k + i * c + j) 9000 / 3), (m_mix dr (k + i * c + j) 9000 / 300) % 16) := if_neg (of_decide_eq_false hb)
        rw [this]
        rfl
    · obtain ⟨s7', s8', rfl⟩ := hJ
      refine sd_frz 6 rfl (sd_app rfl (xd_var rfl) ?_ ⟨.dt (.int i), .dt (.list ((m_row dr k c i c.toNat).map pC)), s7', s8', ?_⟩)
      · simp only [List.length_map, List.length_range]; omega
      · rw [List.range_succ, List.map_append, List.map_append]
        rfl
  · obtain ⟨s5, s6, s7, s8, rfl⟩ := hI
    exact sd_frz 4 rfl (sd_ret (xd_var rfl) rfl)


theorem sc_law_screen : FnScope ["draws", "k", "rows", "columns", "cells", "top", "bottom", "saved", "cursor", "many", "history", "c", "h"] ["draws", "k"] (defScope s_law_screen) := ⟨rfl, rfl, rfl, by decide +kernel, rfl, by decide +kernel, by decide +kernel⟩
theorem ok_law_screen {Pg : Program} {w : World} {K : PySem.W.Frag} {mg : Str → Option Value} {base : Heap} (T : Txt K mg) (C_law_cells : Cal Pg w K mg base "_law_cells" 2 4 P_law_cells) (C_law_char : Cal Pg w K mg base "_law_char" 1 1 P_law_char) (C_law_mix : Cal Pg w K mg base "_law_mix" 1 3 P_law_mix) {f : Addr} {fd : FuncData} (F : FnP K "_law_screen" s_law_screen f fd) :
    FnOk Pg w K mg base CX0 3 f fd ["draws", "k"] (spD K 2 P_law_screen) := by
  refine F.ok sc_law_screen (fun vs H Q E h => h.1) (fun cdv A outer s H vs Q E hr h => ?_)
  have hu := hr.units
  refine ⟨_, PSs.nox (pss_cons (ps_set (i := 2) sc_law_screen.nd rfl (Or.inl rfl) (pe_ix ix_list (pe_lst (pa_cons (pe_op op_add pe_int (pe_callC C_law_mix (hr.mono (by decide)) (by rfl) (pa_cons (pv 0) (pa_cons (pv 1) (pa_cons pe_int pa_nil))))) (pa_cons (pe_op op_add pe_int (pe_callC C_law_mix (hr.mono (by decide)) (by rfl) (pa_cons (pv 0) (pa_cons (pv 1) (pa_cons pe_int pa_nil))))) pa_nil))) (pe_callTy call_int1 (by rfl) T.f_int PyProof.Rows.boot_int (pa_cons (pe_cmpR op_eq (pe_callC C_law_mix (hr.mono (by decide)) (by rfl) (pa_cons (pv 0) (pa_cons (pe_op op_add (pv 1) pe_int) (pa_cons pe_int pa_nil)))) pe_int (nomark _)) pa_nil)) (fun _ _ => rfl)))
      (pss_cons (ps_set (i := 3) sc_law_screen.nd rfl (Or.inr rfl) (pe_ix ix_list (pe_lst (pa_cons (pe_op op_add pe_int (pe_callC C_law_mix (hr.mono (by decide)) (by rfl) (pa_cons (pv 0) (pa_cons (pe_op op_add (pv 1) pe_int) (pa_cons pe_int pa_nil))))) (pa_cons (pe_op op_add pe_int (pe_callC C_law_mix (hr.mono (by decide)) (by rfl) (pa_cons (pv 0) (pa_cons (pe_op op_add (pv 1) pe_int) (pa_cons pe_int pa_nil))))) pa_nil))) (pe_callTy call_int1 (by rfl) T.f_int PyProof.Rows.boot_int (pa_cons (pe_cmpR op_eq (pe_callC C_law_mix (hr.mono (by decide)) (by rfl) (pa_cons (pv 0) (pa_cons (pe_op op_add (pv 1) pe_int) (pa_cons pe_int pa_nil)))) pe_int (nomark _)) pa_nil)) (fun _ _ => rfl)))
      (pss_cons (ps_set (i := 4) sc_law_screen.nd rfl (Or.inl rfl) (pe_callC C_law_cells (hr.mono (by decide)) (by rfl) (pa_cons (pv 0) (pa_cons (pe_op op_add (pv 1) pe_int) (pa_cons (pv 2) (pa_cons (pv 3) pa_nil))))))
      (pss_cons (ps_set (i := 5) sc_law_screen.nd rfl (Or.inl rfl) (pe_callC C_law_mix (hr.mono (by decide)) (by rfl) (pa_cons (pv 0) (pa_cons (pe_op op_add (pv 1) pe_int) (pa_cons (pv 2) pa_nil)))))
      (pss_cons (ps_if (pt_cmpR op_eq (pe_callC C_law_mix (hr.mono (by decide)) (by rfl) (pa_cons (pv 0) (pa_cons (pe_op op_add (pv 1) pe_int) (pa_cons pe_int pa_nil)))) pe_int (nomark _)) (pss_one (ps_set (i := 5) sc_law_screen.nd rfl (Or.inl rfl) pe_int)) pss_nil)
      (pss_cons (ps_set (i := 6) sc_law_screen.nd rfl (Or.inl rfl) (pe_op op_add (pv 5) (pe_callC C_law_mix (hr.mono (by decide)) (by rfl) (pa_cons (pv 0) (pa_cons (pe_op op_add (pv 1) pe_int) (pa_cons (pe_op op_sub (pv 2) (pv 5)) pa_nil))))))
      (pss_cons (ps_if (pt_cmpR op_eq (pe_callC C_law_mix (hr.mono (by decide)) (by rfl) (pa_cons (pv 0) (pa_cons (pe_op op_add (pv 1) pe_int) (pa_cons pe_int pa_nil)))) pe_int (nomark _)) (pss_one (ps_set (i := 6) sc_law_screen.nd rfl (Or.inl rfl) (pe_op op_sub (pv 2) pe_int))) pss_nil)
      (pss_cons (ps_set (i := 7) sc_law_screen.nd rfl (Or.inl rfl) (pe_tup (pa_cons (pe_callC C_law_mix (hr.mono (by decide)) (by rfl) (pa_cons (pv 0) (pa_cons (pe_op op_add (pv 1) pe_int) (pa_cons (pv 2) pa_nil)))) (pa_cons (pe_callC C_law_mix (hr.mono (by decide)) (by rfl) (pa_cons (pv 0) (pa_cons (pe_op op_add (pv 1) pe_int) (pa_cons (pe_op op_add (pv 3) pe_int) pa_nil)))) (pa_cons (pe_callC C_law_mix (hr.mono (by decide)) (by rfl) (pa_cons (pv 0) (pa_cons (pe_op op_add (pv 1) pe_int) (pa_cons pe_int pa_nil)))) pa_nil)))))
      (pss_cons (ps_set (i := 8) sc_law_screen.nd rfl (Or.inl rfl) (pe_tup (pa_cons (pe_callC C_law_mix (hr.mono (by decide)) (by rfl) (pa_cons (pv 0) (pa_cons (pe_op op_add (pv 1) pe_int) (pa_cons (pv 2) pa_nil)))) (pa_cons (pe_callC C_law_mix (hr.mono (by decide)) (by rfl) (pa_cons (pv 0) (pa_cons (pe_op op_add (pv 1) pe_int) (pa_cons (pe_op op_add (pv 3) pe_int) pa_nil)))) pa_nil))))
      (pss_cons (ps_set (i := 9) sc_law_screen.nd rfl (Or.inl rfl) (pe_ix ix_list (pe_lst (pa_cons (pe_callC C_law_mix (hr.mono (by decide)) (by rfl) (pa_cons (pv 0) (pa_cons (pe_op op_add (pv 1) pe_int) (pa_cons pe_int pa_nil)))) (pa_cons (pe_op op_add pe_int (pe_callC C_law_mix (hr.mono (by decide)) (by rfl) (pa_cons (pv 0) (pa_cons (pe_op op_add (pv 1) pe_int) (pa_cons pe_int pa_nil))))) pa_nil))) (pe_callTy call_int1 (by rfl) T.f_int PyProof.Rows.boot_int (pa_cons (pe_cmpR op_eq (pe_callC C_law_mix (hr.mono (by decide)) (by rfl) (pa_cons (pv 0) (pa_cons (pe_op op_add (pv 1) pe_int) (pa_cons pe_int pa_nil)))) pe_int (nomark _)) pa_nil)) (fun _ _ => rfl)))
      (pss_cons (ps_setLc (own := [("h", 12)]) (g := gName 12) (tt := tYes) (te := (tLc (iRng1 (tCons (tVar 3) tNil)) (gName 11) tYes (tTup (tCons (tCall (spD K 1 P_law_char) [] E0 (tCons (tOp _ (tVar 12) (tVar 11)) tNil)) (tCons (tOp _ (tVar 12) (tC (.int 15))) tNil))) [11])) (i := 10) rfl sc_law_screen.nd rfl rfl (sw_true rfl rfl rfl (by decide +kernel)) (pi_range1 rfl T.f_range (pa_cons (pv 9) pa_nil)) (blkOk_by (N := ["draws", "k", "rows", "columns", "cells", "top", "bottom", "saved", "cursor", "many", "history", "c", "h"]) (sc := (defScope s_law_screen)) (by decide +kernel)) (fun _ _ _ _ _ => (pg_name (i := 12) sc_law_screen.nd rfl (Or.inr rfl))) (fun _ _ _ _ _ => pts_nil) (fun _ _ _ _ _ => (pe_lc (own := [("c", 11)]) (g := gName 11) (tt := tYes) (te := (tTup (tCons (tCall (spD K 1 P_law_char) [] E0 (tCons (tOp _ (tVar 12) (tVar 11)) tNil)) (tCons (tOp _ (tVar 12) (tC (.int 15))) tNil)))) rfl sc_law_screen.nd (pi_range1 rfl T.f_range (pa_cons (pv 3) pa_nil)) (blkOk_by (by kernel_rfl)) (fun _ _ _ _ _ => (pg_name (i := 11) sc_law_screen.nd rfl (Or.inl rfl))) (fun _ _ _ _ _ => pts_nil) (fun _ _ _ _ _ => (pe_tup (pa_cons (pe_callC C_law_char (hr.mono (by decide)) (by rfl) (pa_cons (pe_op op_add (pv 12) (pv 11)) pa_nil)) (pa_cons (pe_op op_and (pv 12) pe_int) pa_nil)))))))
      (pss_one (ps_ret (pe_tup (pa_cons (pv 4) (pa_cons (pv 8) (pa_cons (pe_callC C_law_mix (hr.mono (by decide)) (by rfl) (pa_cons (pv 0) (pa_cons (pe_op op_add (pv 1) pe_int) (pa_cons pe_int pa_nil)))) (pa_cons (pe_tup (pa_cons (pv 5) (pa_cons (pv 6) pa_nil))) (pa_cons (pe_cmpR op_gt (pe_callC C_law_mix (hr.mono (by decide)) (by rfl) (pa_cons (pv 0) (pa_cons (pe_op op_add (pv 1) pe_int) (pa_cons pe_int pa_nil)))) pe_int (nomark _)) (pa_cons (pv 7) (pa_cons (pv 10) pa_nil))))))))))))))))))))), body_D (N := ["draws", "k", "rows", "columns", "cells", "top", "bottom", "saved", "cursor", "many", "history", "c", "h"]) (by decide) h fun ds d hl hP => ?_⟩

  obtain ⟨dr, k, rfl, rfl⟩ := hP
  have b1 := s_rows_b dr k
  have b2 := s_cols_b dr k
  have b3 := s_top_b dr k
  have b4 := s_bot_b dr k
  have b5 := s_many_b dr k
  show SD K _ _ [.dt (pI dr), .dt (.int k), .no, .no, .no, .no, .no, .no, .no, .no, .no, .no, .no] _ _
  refine sd_setq (xd_pickI (xo_lst (xa_cons (xd_I0 xd_int (x_mix (xd_var rfl) (xd_var rfl) xd_int (by decide))) (xa_cons (xd_I0 xd_int (x_mix (xd_var rfl) (xd_var rfl) xd_int (by decide))) xa_nil)) (by simp)) (xd_cb (xa_cons (xd_eqI (x_mix (xd_var rfl) (xd_I0 (xd_var rfl) xd_int) xd_int (by decide)) xd_int) xa_nil) rc_intB)) ?_
  show SD K _ _ [.dt (pI dr), .dt (.int k), .dt (.int (s_rows dr k)), .no, .no, .no, .no, .no, .no, .no, .no, .no, .no] _ _
  refine sd_setq (xd_pickI (xo_lst (xa_cons (xd_I0 xd_int (x_mix (xd_var rfl) (xd_I0 (xd_var rfl) xd_int) xd_int (by decide))) (xa_cons (xd_I0 xd_int (x_mix (xd_var rfl) (xd_I0 (xd_var rfl) xd_int) xd_int (by decide))) xa_nil)) (by simp)) (xd_cb (xa_cons (xd_eqI (x_mix (xd_var rfl) (xd_I0 (xd_var rfl) xd_int) xd_int (by decide)) xd_int) xa_nil) rc_intB)) ?_
  show SD K _ _ [.dt (pI dr), .dt (.int k), .dt (.int (s_rows dr k)), .dt (.int (s_cols dr k)), .no, .no, .no, .no, .no, .no, .no, .no, .no] _ _
  refine sd_setq (xd_call (xa_cons (xd_var rfl) (xa_cons (xd_I0 (xd_var rfl) xd_int) (xa_cons (xd_var rfl) (xa_cons (xd_var rfl) xa_nil)))) rfl ⟨dr, k + 20, s_rows dr k, s_cols dr k, rfl, by omega, by omega, by omega, by omega, rfl⟩) ?_
  show SD K _ _ [.dt (pI dr), .dt (.int k), .dt (.int (s_rows dr k)), .dt (.int (s_cols dr k)), .dt (pRs (m_cells dr (k + 20) (s_rows dr k) (s_cols dr k))), .no, .no, .no, .no, .no, .no, .no, .no] _ _
  refine sd_setq (x_mix (xd_var rfl) (xd_I0 (xd_var rfl) xd_int) (xd_var rfl) (by omega)) ?_
  show SD K _ _ [.dt (pI dr), .dt (.int k), .dt (.int (s_rows dr k)), .dt (.int (s_cols dr k)), .dt (pRs (m_cells dr (k + 20) (s_rows dr k) (s_cols dr k))), .dt (.int (m_mix dr (k + 4) (s_rows dr k))), .no, .no, .no, .no, .no, .no, .no] _ _
  refine sd_ifsetI (xt_test (xd_eqI (x_mix (xd_var rfl) (xd_I0 (xd_var rfl) xd_int) xd_int (by decide)) xd_int)) rfl (fun hb => xd_int) ?_
  show SD K _ _ [.dt (pI dr), .dt (.int k), .dt (.int (s_rows dr k)), .dt (.int (s_cols dr k)), .dt (pRs (m_cells dr (k + 20) (s_rows dr k) (s_cols dr k))), .dt (.int (s_top dr k)), .no, .no, .no, .no, .no, .no, .no] _ _
  refine sd_setq (xd_I0 (xd_var rfl) (x_mix (xd_var rfl) (xd_I0 (xd_var rfl) xd_int) (xd_I0 (xd_var rfl) (xd_var rfl)) (by omega))) ?_
  show SD K _ _ [.dt (pI dr), .dt (.int k), .dt (.int (s_rows dr k)), .dt (.int (s_cols dr k)), .dt (pRs (m_cells dr (k + 20) (s_rows dr k) (s_cols dr k))), .dt (.int (s_top dr k)), .dt (.int (s_top dr k + m_mix dr (k + 6) (s_rows dr k - s_top dr k))), .no, .no, .no, .no, .no, .no] _ _
  refine sd_ifsetI (xt_test (xd_eqI (x_mix (xd_var rfl) (xd_I0 (xd_var rfl) xd_int) xd_int (by decide)) xd_int)) rfl (fun hb => xd_I0 (xd_var rfl) xd_int) ?_
  show SD K _ _ [.dt (pI dr), .dt (.int k), .dt (.int (s_rows dr k)), .dt (.int (s_cols dr k)), .dt (pRs (m_cells dr (k + 20) (s_rows dr k) (s_cols dr k))), .dt (.int (s_top dr k)), .dt (.int (s_bot dr k)), .no, .no, .no, .no, .no, .no] _ _
  refine sd_setq (xd_tup (xa_cons (x_mix (xd_var rfl) (xd_I0 (xd_var rfl) xd_int) (xd_var rfl) (by omega)) (xa_cons (x_mix (xd_var rfl) (xd_I0 (xd_var rfl) xd_int) (xd_I0 (xd_var rfl) xd_int) (by omega)) (xa_cons (x_mix (xd_var rfl) (xd_I0 (xd_var rfl) xd_int) xd_int (by decide)) xa_nil))) (by simp)) ?_
  show SD K _ _ [.dt (pI dr), .dt (.int k), .dt (.int (s_rows dr k)), .dt (.int (s_cols dr k)), .dt (pRs (m_cells dr (k + 20) (s_rows dr k) (s_cols dr k))), .dt (.int (s_top dr k)), .dt (.int (s_bot dr k)), .dt (.tuple [.int (m_mix dr (k + 8) (s_rows dr k)), .int (m_mix dr (k + 9) (s_cols dr k + 1)), .int (m_mix dr (k + 10) 16)]), .no, .no, .no, .no, .no] _ _
  refine sd_setq (xd_tup (xa_cons (x_mix (xd_var rfl) (xd_I0 (xd_var rfl) xd_int) (xd_var rfl) (by omega)) (xa_cons (x_mix (xd_var rfl) (xd_I0 (xd_var rfl) xd_int) (xd_I0 (xd_var rfl) xd_int) (by omega)) xa_nil)) (by simp)) ?_
  show SD K _ _ [.dt (pI dr), .dt (.int k), .dt (.int (s_rows dr k)), .dt (.int (s_cols dr k)), .dt (pRs (m_cells dr (k + 20) (s_rows dr k) (s_cols dr k))), .dt (.int (s_top dr k)), .dt (.int (s_bot dr k)), .dt (.tuple [.int (m_mix dr (k + 8) (s_rows dr k)), .int (m_mix dr (k + 9) (s_cols dr k + 1)), .int (m_mix dr (k + 10) 16)]), .dt (.tuple [.int (m_mix dr (k + 11) (s_rows dr k)), .int (m_mix dr (k + 12) (s_cols dr k + 1))]), .no, .no, .no, .no] _ _
  refine sd_setq (xd_pickI (xo_lst (xa_cons (x_mix (xd_var rfl) (xd_I0 (xd_var rfl) xd_int) xd_int (by decide)) (xa_cons (xd_I0 xd_int (x_mix (xd_var rfl) (xd_I0 (xd_var rfl) xd_int) xd_int (by decide))) xa_nil)) (by simp)) (xd_cb (xa_cons (xd_eqI (x_mix (xd_var rfl) (xd_I0 (xd_var rfl) xd_int) xd_int (by decide)) xd_int) xa_nil) rc_intB)) ?_
  show SD K _ _ [.dt (pI dr), .dt (.int k), .dt (.int (s_rows dr k)), .dt (.int (s_cols dr k)), .dt (pRs (m_cells dr (k + 20) (s_rows dr k) (s_cols dr k))), .dt (.int (s_top dr k)), .dt (.int (s_bot dr k)), .dt (.tuple [.int (m_mix dr (k + 8) (s_rows dr k)), .int (m_mix dr (k + 9) (s_cols dr k + 1)), .int (m_mix dr (k + 10) 16)]), .dt (.tuple [.int (m_mix dr (k + 11) (s_rows dr k)), .int (m_mix dr (k + 12) (s_cols dr k + 1))]), .dt (.int (s_many dr k)), .no, .no, .no] _ _
  refine sd_setOq (xo_lcR (g := fun (h : Nat) => (List.range (s_cols dr k).toNat).map fun (c : Nat) => ((m_char ((h : Int) + c), Builtin.bitAnd h 15) : Cell)) (h := pR) (xa_cons (xd_var rfl) xa_nil) (by omega) (fun h hh => ?_)) ?_
  · show XD K _ [.dt (pI dr), .dt (.int k), .dt (.int (s_rows dr k)), .dt (.int (s_cols dr k)), .dt (pRs (m_cells dr (k + 20) (s_rows dr k) (s_cols dr k))), .dt (.int (s_top dr k)), .dt (.int (s_bot dr k)), _, _, .dt (.int (s_many dr k)), .no, .no, .dt (.int (h : Int))] _
    refine (xo_lcR (g := fun (c : Nat) => ((m_char ((h : Int) + c), Builtin.bitAnd h 15) : Cell)) (h := pC) (xa_cons (xd_var rfl) xa_nil) (by omega) fun c hc => ?_).xd
    show XD K _ [_, _, _, _, _, _, _, _, _, _, _, .dt (.int (c : Int)), .dt (.int (h : Int))] (.tuple [.str (m_char ((h : Int) + c)), .int (Builtin.bitAnd h 15)])
    exact xd_tup (xa_cons (x_char (xd_I0 (xd_var rfl) (xd_var rfl))) (xa_cons (xd_I0 (g := Builtin.bitAnd) (xd_var rfl) xd_int) xa_nil)) (by simp)
  refine sd_frz 10 rfl ?_
  show SD K _ _ [.dt (pI dr), .dt (.int k), .dt (.int (s_rows dr k)), .dt (.int (s_cols dr k)), .dt (pRs (m_cells dr (k + 20) (s_rows dr k) (s_cols dr k))), .dt (.int (s_top dr k)), .dt (.int (s_bot dr k)), .dt (.tuple [.int (m_mix dr (k + 8) (s_rows dr k)), .int (m_mix dr (k + 9) (s_cols dr k + 1)), .int (m_mix dr (k + 10) 16)]), .dt (.tuple [.int (m_mix dr (k + 11) (s_rows dr k)), .int (m_mix dr (k + 12) (s_cols dr k + 1))]), .dt (.int (s_many dr k)), .dt (pRs (m_hist (s_many dr k) (s_cols dr k))), .no, .no] _ _
  exact sd_ret (xd_tup (xa_cons (xd_var rfl) (xa_cons (xd_var rfl) (xa_cons (x_mix (xd_var rfl) (xd_I0 (xd_var rfl) xd_int) xd_int (by decide)) (xa_cons (xd_tup (xa_cons (xd_var rfl) (xa_cons (xd_var rfl) xa_nil)) (by simp)) (xa_cons (xd_B0 (x_mix (xd_var rfl) (xd_I0 (xd_var rfl) xd_int) xd_int (by decide)) xd_int) (xa_cons (xd_var rfl) (xa_cons (xd_var rfl) xa_nil))))))) (by simp)) rfl


theorem sc_law_spoilt : FnScope ["draws", "screen", "cells", "cursor", "pen", "band", "wraps", "saved", "history", "word", "cell", "rows", "columns", "row", "column", "odd", "line", "k"] ["draws", "screen"] (defScope s_law_spoilt) := ⟨rfl, rfl, rfl, by decide +kernel, rfl, by decide +kernel, by decide +kernel⟩
theorem ok_law_spoilt {Pg : Program} {w : World} {K : PySem.W.Frag} {mg : Str → Option Value} {base : Heap} (T : Txt K mg) (C_law_at : Cal Pg w K mg base "_law_at" 1 3 P_law_at) {f : Addr} {fd : FuncData} (F : FnP K "_law_spoilt" s_law_spoilt f fd) :
    FnOk Pg w K mg base CX0 2 f fd ["draws", "screen"] (spD K 2 P_law_spoilt) := by
  refine F.ok sc_law_spoilt (fun vs H Q E h => h.1) (fun cdv A outer s H vs Q E hr h => ?_)
  have hu := hr.units
  refine ⟨_, PSs.nox (pss_cons (ps_asg (pv 1) (pg_tup rfl (pgs_cons (pg_name (i := 2) sc_law_spoilt.nd rfl (Or.inr rfl)) (pgs_cons (pg_name (i := 3) sc_law_spoilt.nd rfl (Or.inl rfl)) (pgs_cons (pg_name (i := 4) sc_law_spoilt.nd rfl (Or.inl rfl)) (pgs_cons (pg_name (i := 5) sc_law_spoilt.nd rfl (Or.inl rfl)) (pgs_cons (pg_name (i := 6) sc_law_spoilt.nd rfl (Or.inl rfl)) (pgs_cons (pg_name (i := 7) sc_law_spoilt.nd rfl (Or.inl rfl)) (pgs_cons (pg_name (i := 8) sc_law_spoilt.nd rfl (Or.inl rfl)) pgs_nil)))))))))
      (pss_cons (ps_set (i := 9) sc_law_spoilt.nd rfl (Or.inl rfl) (pe_callC C_law_at (hr.mono (by decide)) (by rfl) (pa_cons (pv 0) (pa_cons pe_int (pa_cons pe_int pa_nil)))))
      (pss_cons (ps_set (i := 10) sc_law_spoilt.nd rfl (Or.inl rfl) (pe_callC C_law_at (hr.mono (by decide)) (by rfl) (pa_cons (pv 0) (pa_cons pe_int (pa_cons pe_int pa_nil)))))
      (pss_cons (ps_set (i := 11) sc_law_spoilt.nd rfl (Or.inl rfl) (pe_callB call_len (by rfl) T.f_len boot_len (pa_cons (pv 2) pa_nil)))
      (pss_cons (ps_set (i := 12) sc_law_spoilt.nd rfl (Or.inl rfl) (pe_callB call_len (by rfl) T.f_len boot_len (pa_cons (pe_ix ix_list (pv 2) pe_int (fun _ _ => rfl)) pa_nil)))
      (pss_cons (ps_set (i := 13) sc_law_spoilt.nd rfl (Or.inl rfl) (pe_op op_mod (pe_callTy call_int1 (by rfl) T.f_int PyProof.Rows.boot_int (pa_cons (pv 10) pa_nil)) (pv 11)))
      (pss_cons (ps_set (i := 14) sc_law_spoilt.nd rfl (Or.inl rfl) (pe_op op_mod (pe_callTy call_int1 (by rfl) T.f_int PyProof.Rows.boot_int (pa_cons (pe_op op_fdiv (pv 10) pe_int) pa_nil)) (pv 12)))
      (pss_cons (ps_if (pt_cmpR op_lt (pv 9) pe_int (nomark _)) (pss_cons (ps_set (i := 15) sc_law_spoilt.nd rfl (Or.inl rfl) (pe_ix ix_list (pe_lst (pa_cons (pe_tup (pa_cons pe_str (pa_cons pe_int pa_nil))) (pa_cons (pe_tup (pa_cons pe_str (pa_cons pe_int pa_nil))) (pa_cons (pe_tup (pa_cons pe_str (pa_cons pe_int pa_nil))) (pa_cons (pe_tup (pa_cons pe_str (pa_cons pe_int pa_nil))) (pa_cons (pe_tup (pa_cons pe_str (pa_cons (pe_un un_neg pe_int) pa_nil))) pa_nil)))))) (pe_op op_mod (pe_callTy call_int1 (by rfl) T.f_int PyProof.Rows.boot_int (pa_cons (pe_op op_fdiv (pv 10) pe_int) pa_nil)) pe_int) (fun _ _ => rfl)))
      (pss_cons (ps_set (i := 16) sc_law_spoilt.nd rfl (Or.inl rfl) (pe_op op_catR (pe_op op_catR (pe_slice sl_list (pe_ix ix_list (pv 2) (pv 13) (fun _ _ => rfl)) po_none (po_some (pv 14))) (pe_lst (pa_cons (pv 15) pa_nil))) (pe_slice sl_list (pe_ix ix_list (pv 2) (pv 13) (fun _ _ => rfl)) (po_some (pe_op op_add (pv 14) pe_int)) po_none)))
      (pss_one (ps_ret (pe_tup (pa_cons (pe_op op_catR (pe_op op_catR (pe_slice sl_list (pv 2) po_none (po_some (pv 13))) (pe_lst (pa_cons (pv 16) pa_nil))) (pe_slice sl_list (pv 2) (po_some (pe_op op_add (pv 13) pe_int)) po_none)) (pa_cons (pv 3) (pa_cons (pv 4) (pa_cons (pv 5) (pa_cons (pv 6) (pa_cons (pv 7) (pa_cons (pv 8) pa_nil)))))))))))) pss_nil)
      (pss_cons (ps_if (pt_cmpR op_eq (pv 9) pe_int (nomark _)) (pss_one (ps_ret (pe_tup (pa_cons (pe_op op_catR (pv 2) (pe_lst (pa_cons (pe_op op_catR (pe_ix ix_list (pv 2) pe_int (fun _ _ => rfl)) (pe_lst (pa_cons (pe_tup (pa_cons pe_str (pa_cons pe_int pa_nil))) pa_nil))) pa_nil))) (pa_cons (pv 3) (pa_cons (pv 4) (pa_cons (pv 5) (pa_cons (pv 6) (pa_cons (pv 7) (pa_cons (pv 8) pa_nil)))))))))) pss_nil)
      (pss_cons (ps_if (pt_cmpR op_eq (pv 9) pe_int (nomark _)) (pss_cons (ps_set (i := 15) sc_law_spoilt.nd rfl (Or.inl rfl) (pe_ix ix_list (pe_lst (pa_cons (pe_tup (pa_cons (pv 11) (pa_cons pe_int pa_nil))) (pa_cons (pe_tup (pa_cons pe_int (pa_cons (pe_op op_add (pv 12) pe_int) pa_nil))) (pa_cons (pe_tup (pa_cons (pe_un un_neg pe_int) (pa_cons pe_int pa_nil))) (pa_cons (pe_tup (pa_cons pe_int (pa_cons (pe_un un_neg pe_int) pa_nil))) pa_nil))))) (pe_op op_mod (pe_callTy call_int1 (by rfl) T.f_int PyProof.Rows.boot_int (pa_cons (pv 10) pa_nil)) pe_int) (fun _ _ => rfl)))
      (pss_one (ps_ret (pe_tup (pa_cons (pv 2) (pa_cons (pv 15) (pa_cons (pv 4) (pa_cons (pv 5) (pa_cons (pv 6) (pa_cons (pv 7) (pa_cons (pv 8) pa_nil))))))))))) pss_nil)
      (pss_cons (ps_if (pt_cmpR op_eq (pv 9) pe_int (nomark _)) (pss_one (ps_ret (pe_tup (pa_cons (pv 2) (pa_cons (pv 3) (pa_cons (pe_ix ix_list (pe_lst (pa_cons pe_int (pa_cons (pe_un un_neg pe_int) pa_nil))) (pe_op op_mod (pe_callTy call_int1 (by rfl) T.f_int PyProof.Rows.boot_int (pa_cons (pv 10) pa_nil)) pe_int) (fun _ _ => rfl)) (pa_cons (pv 5) (pa_cons (pv 6) (pa_cons (pv 7) (pa_cons (pv 8) pa_nil)))))))))) pss_nil)
      (pss_cons (ps_if (pt_cmpR op_eq (pv 9) pe_int (nomark _)) (pss_one (ps_ret (pe_tup (pa_cons (pv 2) (pa_cons (pv 3) (pa_cons (pv 4) (pa_cons (pe_ix ix_list (pe_lst (pa_cons (pe_tup (pa_cons pe_int (pa_cons (pv 11) pa_nil))) (pa_cons (pe_tup (pa_cons (pe_un un_neg pe_int) (pa_cons pe_int pa_nil))) (pa_cons (pe_tup (pa_cons (pv 11) (pa_cons (pv 11) pa_nil))) (pa_cons (pe_tup (pa_cons pe_int (pa_cons pe_int pa_nil))) pa_nil))))) (pe_op op_mod (pe_callTy call_int1 (by rfl) T.f_int PyProof.Rows.boot_int (pa_cons (pv 10) pa_nil)) pe_int) (fun _ _ => rfl)) (pa_cons (pv 6) (pa_cons (pv 7) (pa_cons (pv 8) pa_nil)))))))))) pss_nil)
      (pss_cons (ps_if (pt_cmpR op_eq (pv 9) pe_int (nomark _)) (pss_cons (ps_set (i := 15) sc_law_spoilt.nd rfl (Or.inl rfl) (pe_ix ix_list (pe_lst (pa_cons (pe_tup (pa_cons (pv 11) (pa_cons pe_int (pa_cons pe_int pa_nil)))) (pa_cons (pe_tup (pa_cons pe_int (pa_cons (pe_op op_add (pv 12) pe_int) (pa_cons pe_int pa_nil)))) (pa_cons (pe_tup (pa_cons pe_int (pa_cons pe_int (pa_cons pe_int pa_nil)))) (pa_cons (pe_tup (pa_cons (pe_un un_neg pe_int) (pa_cons pe_int (pa_cons pe_int pa_nil)))) (pa_cons (pe_tup (pa_cons pe_int (pa_cons pe_int (pa_cons (pe_un un_neg pe_int) pa_nil)))) pa_nil)))))) (pe_op op_mod (pe_callTy call_int1 (by rfl) T.f_int PyProof.Rows.boot_int (pa_cons (pv 10) pa_nil)) pe_int) (fun _ _ => rfl)))
      (pss_one (ps_ret (pe_tup (pa_cons (pv 2) (pa_cons (pv 3) (pa_cons (pv 4) (pa_cons (pv 5) (pa_cons (pv 6) (pa_cons (pv 15) (pa_cons (pv 8) pa_nil))))))))))) pss_nil)
      (pss_cons (ps_if (pt_cmpR op_eq (pv 9) pe_int (nomark _)) (pss_one (ps_ret (pe_tup (pa_cons (pv 2) (pa_cons (pv 3) (pa_cons (pv 4) (pa_cons (pv 5) (pa_cons (pv 6) (pa_cons (pv 7) (pa_cons (pe_lc (own := [("k", 17)]) (g := gName 17) (tt := tYes) (te := (tOp (rIxL K) (tVar 2) (tC (.int 0)))) rfl sc_law_spoilt.nd (pi_range1 rfl T.f_range (pa_cons (pe_op op_add pe_int (pe_op op_mod (pe_callTy call_int1 (by rfl) T.f_int PyProof.Rows.boot_int (pa_cons (pv 10) pa_nil)) pe_int)) pa_nil)) (blkOk_by (N := ["draws", "screen", "cells", "cursor", "pen", "band", "wraps", "saved", "history", "word", "cell", "rows", "columns", "row", "column", "odd", "line", "k"]) (sc := (defScope s_law_spoilt)) (by decide +kernel)) (fun _ _ _ _ _ => (pg_name (i := 17) sc_law_spoilt.nd rfl (Or.inl rfl))) (fun _ _ _ _ _ => pts_nil) (fun _ _ _ _ _ => (pe_ix ix_list (pv 2) pe_int (fun _ _ => rfl)))) pa_nil)))))))))) pss_nil)
      (pss_cons (ps_if (pt_cmpR op_eq (pv 9) pe_int (nomark _)) (pss_one (ps_ret (pe_tup (pa_cons (pv 2) (pa_cons (pv 3) (pa_cons (pv 4) (pa_cons (pv 5) (pa_cons (pv 6) (pa_cons (pv 7) (pa_cons (pe_op op_catR (pe_slice sl_list (pv 8) po_none (po_some pe_int)) (pe_lst (pa_cons (pe_op op_catR (pe_ix ix_list (pv 2) pe_int (fun _ _ => rfl)) (pe_lst (pa_cons (pe_tup (pa_cons pe_str (pa_cons pe_int pa_nil))) pa_nil))) pa_nil))) pa_nil)))))))))) pss_nil)
      (pss_cons (ps_if (pt_cmpR op_eq (pv 9) pe_int (nomark _)) (pss_one (ps_ret (pe_tup (pa_cons (pe_lc (own := [("k", 17)]) (g := gName 17) (tt := tYes) (te := (tOp (rIxL K) (tVar 2) (tC (.int 0)))) rfl sc_law_spoilt.nd (pi_range1 rfl T.f_range (pa_cons pe_int pa_nil)) (blkOk_by (N := ["draws", "screen", "cells", "cursor", "pen", "band", "wraps", "saved", "history", "word", "cell", "rows", "columns", "row", "column", "odd", "line", "k"]) (sc := (defScope s_law_spoilt)) (by decide +kernel)) (fun _ _ _ _ _ => (pg_name (i := 17) sc_law_spoilt.nd rfl (Or.inl rfl))) (fun _ _ _ _ _ => pts_nil) (fun _ _ _ _ _ => (pe_ix ix_list (pv 2) pe_int (fun _ _ => rfl)))) (pa_cons (pe_tup (pa_cons pe_int (pa_cons pe_int pa_nil))) (pa_cons pe_int (pa_cons (pe_tup (pa_cons pe_int (pa_cons pe_int pa_nil))) (pa_cons (pv 6) (pa_cons (pe_tup (pa_cons pe_int (pa_cons pe_int (pa_cons pe_int pa_nil)))) (pa_cons (pe_lst pa_nil) pa_nil)))))))))) pss_nil)
      (pss_one (ps_ret (pe_tup (pa_cons (pe_lst (pa_cons (pe_lc (own := [("k", 17)]) (g := gName 17) (tt := tYes) (te := (tTup (tCons (tC _) (tCons (tC (.int 0)) tNil)))) rfl sc_law_spoilt.nd (pi_range1 rfl T.f_range (pa_cons pe_int pa_nil)) (blkOk_by (N := ["draws", "screen", "cells", "cursor", "pen", "band", "wraps", "saved", "history", "word", "cell", "rows", "columns", "row", "column", "odd", "line", "k"]) (sc := (defScope s_law_spoilt)) (by decide +kernel)) (fun _ _ _ _ _ => (pg_name (i := 17) sc_law_spoilt.nd rfl (Or.inl rfl))) (fun _ _ _ _ _ => pts_nil) (fun _ _ _ _ _ => (pe_tup (pa_cons pe_str (pa_cons pe_int pa_nil))))) pa_nil)) (pa_cons (pe_tup (pa_cons pe_int (pa_cons pe_int pa_nil))) (pa_cons pe_int (pa_cons (pe_tup (pa_cons pe_int (pa_cons pe_int pa_nil))) (pa_cons (pv 6) (pa_cons (pe_tup (pa_cons pe_int (pa_cons pe_int (pa_cons pe_int pa_nil)))) (pa_cons (pe_lst pa_nil) pa_nil)))))))))))))))))))))))))), body_D (N := ["draws", "screen", "cells", "cursor", "pen", "band", "wraps", "saved", "history", "word", "cell", "rows", "columns", "row", "column", "odd", "line", "k"]) (by decide) h fun ds d hl hP => ?_⟩

  obtain ⟨dr, s, rfl, ⟨hn, hl, hw, hc1, hc2, hh⟩, rfl⟩ := hP
  have hpos : 0 < s.cells.length := List.length_pos_iff.mpr hn
  have bw := at_b dr 0 (m := 12) (by decide)
  have bc := at_b dr 1 (m := 60000) (by decide)
  have hR : (1 : Int) ≤ s.cells.length ∧ (s.cells.length : Int) ≤ 100 := by omega
  have hC : (1 : Int) ≤ (s.cells.getD 0 []).length ∧ ((s.cells.getD 0 []).length : Int) ≤ 100 := by omega
  obtain ⟨w, hw0⟩ : ∃ w, w = m_at dr 0 12 := ⟨_, rfl⟩
  obtain ⟨c, hc0⟩ : ∃ c, c = m_at dr 1 60000 := ⟨_, rfl⟩
  obtain ⟨R, hR0⟩ : ∃ R, R = (s.cells.length : Int) := ⟨_, rfl⟩
  obtain ⟨C, hC0⟩ : ∃ C, C = ((s.cells.getD 0 []).length : Int) := ⟨_, rfl⟩
  rw [← hw0] at bw
  rw [← hc0] at bc
  rw [← hR0] at hR
  rw [← hC0] at hC
  have hgoal : m_spoilt dr s = m_sp w c s R C := by rw [hw0, hc0, hR0, hC0]; rfl
  rw [hgoal]
  refine sd_asgq (xd_var rfl) (xg_tup (n := 7) (xgs_cons (xg_name 2) (xgs_cons (xg_name 3) (xgs_cons (xg_name 4) (xgs_cons (xg_name 5) (xgs_cons (xg_name 6) (xgs_cons (xg_name 7) (xgs_cons (xg_name 8) xgs_nil))))))) rfl) ?_
  show SD K _ _ [.dt (pI dr), .dt (pS s), .dt (pRs s.cells), .dt (.tuple [.int s.cr, .int s.cc]), .dt (.int s.pen), .dt (.tuple [.int s.top, .int s.bot]), .dt (.bool s.wraps), .dt (.tuple [.int s.sr, .int s.sc, .int s.sp]), .dt (pRs s.hist), .no, .no, .no, .no, .no, .no, .no, .no, .no] _ _

  refine sd_setq (d := .int w) (by rw [hw0]; exact x_at (xd_var rfl) xd_int xd_int (by decide) (by decide)) ?_
  show SD K _ _ [.dt (pI dr), .dt (pS s), .dt (pRs s.cells), .dt (.tuple [.int s.cr, .int s.cc]), .dt (.int s.pen), .dt (.tuple [.int s.top, .int s.bot]), .dt (.bool s.wraps), .dt (.tuple [.int s.sr, .int s.sc, .int s.sp]), .dt (pRs s.hist), .dt (.int w), .no, .no, .no, .no, .no, .no, .no, .no] _ _

  refine sd_setq (d := .int c) (by rw [hc0]; exact x_at (xd_var rfl) xd_int xd_int (by decide) (by decide)) ?_
  show SD K _ _ [.dt (pI dr), .dt (pS s), .dt (pRs s.cells), .dt (.tuple [.int s.cr, .int s.cc]), .dt (.int s.pen), .dt (.tuple [.int s.top, .int s.bot]), .dt (.bool s.wraps), .dt (.tuple [.int s.sr, .int s.sc, .int s.sp]), .dt (pRs s.hist), .dt (.int w), .dt (.int c), .no, .no, .no, .no, .no, .no, .no] _ _

  refine sd_setq (d := .int R) (by rw [hR0]; exact xd_cb (xa_cons (xd_var rfl) xa_nil) rc_lenM) ?_
  show SD K _ _ [.dt (pI dr), .dt (pS s), .dt (pRs s.cells), .dt (.tuple [.int s.cr, .int s.cc]), .dt (.int s.pen), .dt (.tuple [.int s.top, .int s.bot]), .dt (.bool s.wraps), .dt (.tuple [.int s.sr, .int s.sc, .int s.sp]), .dt (pRs s.hist), .dt (.int w), .dt (.int c), .dt (.int R), .no, .no, .no, .no, .no, .no] _ _

  refine sd_setq (d := .int C) (by rw [hC0]; exact xd_cb (xa_cons (xd_ixM [] (xd_var rfl) xd_int ⟨by decide, by omega⟩) xa_nil) rc_lenM) ?_
  show SD K _ _ [.dt (pI dr), .dt (pS s), .dt (pRs s.cells), .dt (.tuple [.int s.cr, .int s.cc]), .dt (.int s.pen), .dt (.tuple [.int s.top, .int s.bot]), .dt (.bool s.wraps), .dt (.tuple [.int s.sr, .int s.sc, .int s.sp]), .dt (pRs s.hist), .dt (.int w), .dt (.int c), .dt (.int R), .dt (.int C), .no, .no, .no, .no, .no] _ _

  refine sd_setq (d := .int (c % R)) (xd_I (xd_cb (xa_cons (xd_var rfl) xa_nil) rc_int) (xd_var rfl) (show 0 < R by omega)) ?_
  show SD K _ _ [.dt (pI dr), .dt (pS s), .dt (pRs s.cells), .dt (.tuple [.int s.cr, .int s.cc]), .dt (.int s.pen), .dt (.tuple [.int s.top, .int s.bot]), .dt (.bool s.wraps), .dt (.tuple [.int s.sr, .int s.sc, .int s.sp]), .dt (pRs s.hist), .dt (.int w), .dt (.int c), .dt (.int R), .dt (.int C), .dt (.int (c % R)), .no, .no, .no, .no] _ _

  refine sd_setq (d := .int (c / 7 % C)) (xd_I (xd_cb (xa_cons (xd_I (xd_var rfl) xd_int ⟨by decide, by decide⟩) xa_nil) rc_int) (xd_var rfl) (show 0 < C by omega)) ?_
  show SD K _ _ [.dt (pI dr), .dt (pS s), .dt (pRs s.cells), .dt (.tuple [.int s.cr, .int s.cc]), .dt (.int s.pen), .dt (.tuple [.int s.top, .int s.bot]), .dt (.bool s.wraps), .dt (.tuple [.int s.sr, .int s.sc, .int s.sp]), .dt (pRs s.hist), .dt (.int w), .dt (.int c), .dt (.int R), .dt (.int C), .dt (.int (c % R)), .dt (.int (c / 7 % C)), .no, .no, .no] _ _

  have hr0 : 0 ≤ c % R ∧ c % R < R := ⟨Int.emod_nonneg _ (by omega), Int.emod_lt_of_pos _ (by omega)⟩
  have hk0 : 0 ≤ c / 7 % C ∧ c / 7 % C < C := ⟨Int.emod_nonneg _ (by omega), Int.emod_lt_of_pos _ (by omega)⟩
  have hrow : (s.cells.getD (c % R).toNat []).length ≤ 100 := by
    have := hw _ (getD_mem (xs := s.cells) (n := (c % R).toNat) (d := []) (by omega))
    omega
  have hrow0 : (s.cells.getD 0 []).length ≤ 100 := hc2
  refine sd_ifr (xt_test (xd_B0 (xd_var rfl) xd_int)) (fun hb => ?_) (fun hb => ?_)
  · have hb : w < 3 := of_decide_eq_true hb
    refine sd_setq (d := pC (oddCells.getD (c / 11 % 5).toNat ("", 0))) (xd_ixM (xs := oddCells) (f := pC) ("", 0) (xo_lst (xa_cons (xd_tup (xa_cons xd_str (xa_cons xd_int xa_nil)) (by simp)) (xa_cons (xd_tup (xa_cons xd_str (xa_cons xd_int xa_nil)) (by simp)) (xa_cons (xd_tup (xa_cons xd_str (xa_cons xd_int xa_nil)) (by simp)) (xa_cons (xd_tup (xa_cons xd_str (xa_cons xd_int xa_nil)) (by simp)) (xa_cons (xd_tup (xa_cons xd_str (xa_cons (xd_neg xd_int) xa_nil)) (by simp)) xa_nil))))) (by simp)).xd (xd_I (xd_cb (xa_cons (xd_I (xd_var rfl) xd_int ⟨by decide, by decide⟩) xa_nil) rc_int) xd_int (by decide)) ⟨by omega, by show _ < (5 : Int); omega⟩) ?_
    show SD K _ _ [.dt (pI dr), .dt (pS s), .dt (pRs s.cells), .dt (.tuple [.int s.cr, .int s.cc]), .dt (.int s.pen), .dt (.tuple [.int s.top, .int s.bot]), .dt (.bool s.wraps), .dt (.tuple [.int s.sr, .int s.sc, .int s.sp]), .dt (pRs s.hist), .dt (.int w), .dt (.int c), .dt (.int R), .dt (.int C), .dt (.int (c % R)), .dt (.int (c / 7 % C)), .dt (pC (oddCells.getD (c / 11 % 5).toNat ("", 0))), .no, .no] _ _

    refine sd_setOq (xo_catM (xo_catM (xo_to (n := c / 7 % C) (xd_ixM (xs := s.cells) (f := pR) (i := c % R) [] (xd_var rfl) (xd_var rfl) ⟨by omega, by omega⟩) (xd_var rfl) (by omega)).xd (xo_one (xd_var rfl)).xd ?_).xd (xo_from (n := c / 7 % C + 1) (xd_ixM (xs := s.cells) (f := pR) (i := c % R) [] (xd_var rfl) (xd_var rfl) ⟨by omega, by omega⟩) (xd_I0 (xd_var rfl) xd_int) (by omega)).xd ?_) <| sd_frz 16 rfl ?_
    · simp only [List.length_take, List.length_singleton]; omega
    · simp only [List.length_append, List.length_take, List.length_drop, List.length_singleton]; omega
    show SD K _ _ [.dt (pI dr), .dt (pS s), .dt (pRs s.cells), .dt (.tuple [.int s.cr, .int s.cc]), .dt (.int s.pen), .dt (.tuple [.int s.top, .int s.bot]), .dt (.bool s.wraps), .dt (.tuple [.int s.sr, .int s.sc, .int s.sp]), .dt (pRs s.hist), .dt (.int w), .dt (.int c), .dt (.int R), .dt (.int C), .dt (.int (c % R)), .dt (.int (c / 7 % C)), .dt (pC (oddCells.getD (c / 11 % 5).toNat ("", 0))), .dt (pR (spLine c s.cells (c % R) (c / 7 % C))), .no] _ _

    refine sd_ret (xd_tup (xa_cons (xo_catM (xo_catM (xo_to (n := c % R) (xd_var rfl) (xd_var rfl) (by omega)).xd (xo_one (xd_var rfl)).xd ?_).xd (xo_from (n := c % R + 1) (xd_var rfl) (xd_I0 (xd_var rfl) xd_int) (by omega)).xd ?_).xd (xa_cons (xd_var rfl) (xa_cons (xd_var rfl) (xa_cons (xd_var rfl) (xa_cons (xd_var rfl) (xa_cons (xd_var rfl) (xa_cons (xd_var rfl) xa_nil))))))) (by simp)) ?_
    · simp only [List.length_take, List.length_singleton]; omega
    · simp only [List.length_append, List.length_take, List.length_drop, List.length_singleton]; omega
    · unfold m_sp; rw [if_pos hb]; rfl
  have n3 : ¬ w < 3 := of_decide_eq_false hb
  refine sd_ifr (xt_test (xd_eqI (xd_var rfl) xd_int)) (fun hb => ?_) (fun hb => ?_)
  · have hb : w = 3 := of_decide_eq_true hb
    refine sd_ret (xd_tup (xa_cons (xo_catM (xd_var rfl) (xo_one (x := s.cells.getD 0 [] ++ [(("a", 0) : Cell)]) (f := pR) (xo_catM (xd_ixM (xs := s.cells) (f := pR) (i := 0) [] (xd_var rfl) xd_int ⟨by decide, by omega⟩) (xo_one (x := (("a", 0) : Cell)) (f := pC) (xd_tup (xa_cons xd_str (xa_cons xd_int xa_nil)) (by simp))).xd ?_).xd).xd ?_).xd (xa_cons (xd_var rfl) (xa_cons (xd_var rfl) (xa_cons (xd_var rfl) (xa_cons (xd_var rfl) (xa_cons (xd_var rfl) (xa_cons (xd_var rfl) xa_nil))))))) (by simp)) ?_
    · first | (simp only [List.length_singleton]; omega) | exact Nat.le_trans (Nat.add_le_add_right hrow0 1) (by decide)
    · first | (simp only [List.length_singleton]; omega) | exact Nat.le_trans (Nat.add_le_add_right hrow0 1) (by decide)
    · unfold m_sp; rw [if_neg n3, if_pos hb]
  have n4 : ¬ w = 3 := of_decide_eq_false hb
  refine sd_ifr (xt_test (xd_eqI (xd_var rfl) xd_int)) (fun hb => ?_) (fun hb => ?_)
  · have hb : w = 4 := of_decide_eq_true hb
    refine sd_setq (d := pP ((oddCurs R C).getD (c % 4).toNat (0, 0))) (xd_ixM (xs := oddCurs R C) (f := pP) (0, 0) (xo_lst (xa_cons (xd_tup (xa_cons (xd_var rfl) (xa_cons xd_int xa_nil)) (by simp)) (xa_cons (xd_tup (xa_cons xd_int (xa_cons (xd_I0 (xd_var rfl) xd_int) xa_nil)) (by simp)) (xa_cons (xd_tup (xa_cons (xd_neg xd_int) (xa_cons xd_int xa_nil)) (by simp)) (xa_cons (xd_tup (xa_cons xd_int (xa_cons (xd_neg xd_int) xa_nil)) (by simp)) xa_nil)))) (by simp)).xd (xd_I (xd_cb (xa_cons (xd_var rfl) xa_nil) rc_int) xd_int (by decide)) ⟨by omega, by show _ < (4 : Int); omega⟩) ?_
    show SD K _ _ [.dt (pI dr), .dt (pS s), .dt (pRs s.cells), .dt (.tuple [.int s.cr, .int s.cc]), .dt (.int s.pen), .dt (.tuple [.int s.top, .int s.bot]), .dt (.bool s.wraps), .dt (.tuple [.int s.sr, .int s.sc, .int s.sp]), .dt (pRs s.hist), .dt (.int w), .dt (.int c), .dt (.int R), .dt (.int C), .dt (.int (c % R)), .dt (.int (c / 7 % C)), .dt (pP ((oddCurs R C).getD (c % 4).toNat (0, 0))), .no, .no] _ _

    refine sd_ret (xd_tup (xa_cons (xd_var rfl) (xa_cons (xd_var rfl) (xa_cons (xd_var rfl) (xa_cons (xd_var rfl) (xa_cons (xd_var rfl) (xa_cons (xd_var rfl) (xa_cons (xd_var rfl) xa_nil))))))) (by simp)) ?_
    unfold m_sp; rw [if_neg n3, if_neg n4, if_pos hb]
  have n5 : ¬ w = 4 := of_decide_eq_false hb
  refine sd_ifr (xt_test (xd_eqI (xd_var rfl) xd_int)) (fun hb => ?_) (fun hb => ?_)
  · have hb : w = 5 := of_decide_eq_true hb
    refine sd_ret (xd_tup (xa_cons (xd_var rfl) (xa_cons (xd_var rfl) (xa_cons (xd_ixM (xs := [16, -1]) (f := PyData.int) 0 (xo_lst (xa_cons xd_int (xa_cons (xd_neg xd_int) xa_nil)) (by simp)).xd (xd_I (xd_cb (xa_cons (xd_var rfl) xa_nil) rc_int) xd_int (by decide)) ⟨by omega, by show _ < (2 : Int); omega⟩) (xa_cons (xd_var rfl) (xa_cons (xd_var rfl) (xa_cons (xd_var rfl) (xa_cons (xd_var rfl) xa_nil))))))) (by simp)) ?_
    unfold m_sp; rw [if_neg n3, if_neg n4, if_neg n5, if_pos hb]
  have n6 : ¬ w = 5 := of_decide_eq_false hb
  refine sd_ifr (xt_test (xd_eqI (xd_var rfl) xd_int)) (fun hb => ?_) (fun hb => ?_)
  · have hb : w = 6 := of_decide_eq_true hb
    refine sd_ret (xd_tup (xa_cons (xd_var rfl) (xa_cons (xd_var rfl) (xa_cons (xd_var rfl) (xa_cons (xd_ixM (xs := oddBands R) (f := pP) (0, 0) (xo_lst (xa_cons (xd_tup (xa_cons xd_int (xa_cons (xd_var rfl) xa_nil)) (by simp)) (xa_cons (xd_tup (xa_cons (xd_neg xd_int) (xa_cons xd_int xa_nil)) (by simp)) (xa_cons (xd_tup (xa_cons (xd_var rfl) (xa_cons (xd_var rfl) xa_nil)) (by simp)) (xa_cons (xd_tup (xa_cons xd_int (xa_cons xd_int xa_nil)) (by simp)) xa_nil)))) (by simp)).xd (xd_I (xd_cb (xa_cons (xd_var rfl) xa_nil) rc_int) xd_int (by decide)) ⟨by omega, by show _ < (4 : Int); omega⟩) (xa_cons (xd_var rfl) (xa_cons (xd_var rfl) (xa_cons (xd_var rfl) xa_nil))))))) (by simp)) ?_
    unfold m_sp; rw [if_neg n3, if_neg n4, if_neg n5, if_neg n6, if_pos hb]
  have n7 : ¬ w = 6 := of_decide_eq_false hb
  refine sd_ifr (xt_test (xd_eqI (xd_var rfl) xd_int)) (fun hb => ?_) (fun hb => ?_)
  · have hb : w = 7 := of_decide_eq_true hb
    refine sd_setq (d := pT ((oddSaved R C).getD (c % 5).toNat (0, 0, 0))) (xd_ixM (xs := oddSaved R C) (f := pT) (0, 0, 0) (xo_lst (xa_cons (xd_tup (xa_cons (xd_var rfl) (xa_cons xd_int (xa_cons xd_int xa_nil))) (by simp)) (xa_cons (xd_tup (xa_cons xd_int (xa_cons (xd_I0 (xd_var rfl) xd_int) (xa_cons xd_int xa_nil))) (by simp)) (xa_cons (xd_tup (xa_cons xd_int (xa_cons xd_int (xa_cons xd_int xa_nil))) (by simp)) (xa_cons (xd_tup (xa_cons (xd_neg xd_int) (xa_cons xd_int (xa_cons xd_int xa_nil))) (by simp)) (xa_cons (xd_tup (xa_cons xd_int (xa_cons xd_int (xa_cons (xd_neg xd_int) xa_nil))) (by simp)) xa_nil))))) (by simp)).xd (xd_I (xd_cb (xa_cons (xd_var rfl) xa_nil) rc_int) xd_int (by decide)) ⟨by omega, by show _ < (5 : Int); omega⟩) ?_
    show SD K _ _ [.dt (pI dr), .dt (pS s), .dt (pRs s.cells), .dt (.tuple [.int s.cr, .int s.cc]), .dt (.int s.pen), .dt (.tuple [.int s.top, .int s.bot]), .dt (.bool s.wraps), .dt (.tuple [.int s.sr, .int s.sc, .int s.sp]), .dt (pRs s.hist), .dt (.int w), .dt (.int c), .dt (.int R), .dt (.int C), .dt (.int (c % R)), .dt (.int (c / 7 % C)), .dt (pT ((oddSaved R C).getD (c % 5).toNat (0, 0, 0))), .no, .no] _ _

    refine sd_ret (xd_tup (xa_cons (xd_var rfl) (xa_cons (xd_var rfl) (xa_cons (xd_var rfl) (xa_cons (xd_var rfl) (xa_cons (xd_var rfl) (xa_cons (xd_var rfl) (xa_cons (xd_var rfl) xa_nil))))))) (by simp)) ?_
    unfold m_sp; rw [if_neg n3, if_neg n4, if_neg n5, if_neg n6, if_neg n7, if_pos hb]
  have n8 : ¬ w = 7 := of_decide_eq_false hb
  refine sd_ifr (xt_test (xd_eqI (xd_var rfl) xd_int)) (fun hb => ?_) (fun hb => ?_)
  · have hb : w = 8 := of_decide_eq_true hb
    refine sd_ret (xd_tup (xa_cons (xd_var rfl) (xa_cons (xd_var rfl) (xa_cons (xd_var rfl) (xa_cons (xd_var rfl) (xa_cons (xd_var rfl) (xa_cons (xd_var rfl) (xa_cons (xo_lcR (g := fun _ => s.cells.getD 0 []) (h := pR) (xa_cons (xd_I0 xd_int (xd_I (xd_cb (xa_cons (xd_var rfl) xa_nil) rc_int) xd_int (by decide))) xa_nil) (by omega) fun k hk => (xd_ixM (xs := s.cells) (f := pR) (i := 0) [] (xd_var rfl) xd_int ⟨by decide, by omega⟩)).xd xa_nil))))))) (by simp)) ?_
    unfold m_sp; rw [if_neg n3, if_neg n4, if_neg n5, if_neg n6, if_neg n7, if_neg n8, if_pos hb]
  have n9 : ¬ w = 8 := of_decide_eq_false hb
  refine sd_ifr (xt_test (xd_eqI (xd_var rfl) xd_int)) (fun hb => ?_) (fun hb => ?_)
  · have hb : w = 9 := of_decide_eq_true hb
    refine sd_ret (xd_tup (xa_cons (xd_var rfl) (xa_cons (xd_var rfl) (xa_cons (xd_var rfl) (xa_cons (xd_var rfl) (xa_cons (xd_var rfl) (xa_cons (xd_var rfl) (xa_cons (xo_catM (xo_to (xd_var rfl) xd_int (by decide)).xd (xo_one (x := s.cells.getD 0 [] ++ [(("b", 1) : Cell)]) (f := pR) (xo_catM (xd_ixM (xs := s.cells) (f := pR) (i := 0) [] (xd_var rfl) xd_int ⟨by decide, by omega⟩) (xo_one (x := (("b", 1) : Cell)) (f := pC) (xd_tup (xa_cons xd_str (xa_cons xd_int xa_nil)) (by simp))).xd ?_).xd).xd ?_).xd xa_nil))))))) (by simp)) ?_
    · first | (simp only [List.length_singleton]; omega) | exact Nat.le_trans (Nat.add_le_add_right hrow0 1) (by decide)
    · simp only [List.length_take, List.length_singleton]; omega
    · unfold m_sp; rw [if_neg n3, if_neg n4, if_neg n5, if_neg n6, if_neg n7, if_neg n8, if_neg n9, if_pos hb]; rfl
  have n10 : ¬ w = 9 := of_decide_eq_false hb
  refine sd_ifr (xt_test (xd_eqI (xd_var rfl) xd_int)) (fun hb => ?_) (fun hb => ?_)
  · have hb : w = 10 := of_decide_eq_true hb
    refine sd_ret (xd_tup (xa_cons (xo_lcR (g := fun _ => s.cells.getD 0 []) (h := pR) (n := 13) (xa_cons xd_int xa_nil) (by decide) fun k hk => (xd_ixM (xs := s.cells) (f := pR) (i := 0) [] (xd_var rfl) xd_int ⟨by decide, by omega⟩)).xd (xa_cons (xd_tup (xa_cons xd_int (xa_cons xd_int xa_nil)) (by simp)) (xa_cons xd_int (xa_cons (xd_tup (xa_cons xd_int (xa_cons xd_int xa_nil)) (by simp)) (xa_cons (xd_var rfl) (xa_cons (xd_tup (xa_cons xd_int (xa_cons xd_int (xa_cons xd_int xa_nil))) (by simp)) (xa_cons (xo_lst xa_nil (by simp)).xd xa_nil))))))) (by simp)) ?_
    unfold m_sp; rw [if_neg n3, if_neg n4, if_neg n5, if_neg n6, if_neg n7, if_neg n8, if_neg n9, if_neg n10, if_pos hb]; rfl
  have n11 : ¬ w = 10 := of_decide_eq_false hb
  refine sd_ret (xd_tup (xa_cons (xo_lst (xa_cons (xo_lcR (g := fun _ => (("a", 0) : Cell)) (h := pC) (n := 41) (xa_cons xd_int xa_nil) (by decide) fun k hk => (xd_tup (xa_cons xd_str (xa_cons xd_int xa_nil)) (by simp))).xd xa_nil) (by simp)).xd (xa_cons (xd_tup (xa_cons xd_int (xa_cons xd_int xa_nil)) (by simp)) (xa_cons xd_int (xa_cons (xd_tup (xa_cons xd_int (xa_cons xd_int xa_nil)) (by simp)) (xa_cons (xd_var rfl) (xa_cons (xd_tup (xa_cons xd_int (xa_cons xd_int (xa_cons xd_int xa_nil))) (by simp)) (xa_cons (xo_lst xa_nil (by simp)).xd xa_nil))))))) (by simp)) ?_
  unfold m_sp; rw [if_neg n3, if_neg n4, if_neg n5, if_neg n6, if_neg n7, if_neg n8, if_neg n9, if_neg n10, if_neg n11]; rfl


theorem sc_is_number : FnScope ["value", "least", "greatest"] ["value", "least", "greatest"] (defScope s_is_number) := ⟨rfl, rfl, rfl, by decide +kernel, rfl, by decide +kernel, by decide +kernel⟩
theorem ok_is_number {Pg : Program} {w : World} {K : PySem.W.Frag} {mg : Str → Option Value} {base : Heap} (T : Txt K mg) {f : Addr} {fd : FuncData} (F : FnP K "is_number" s_is_number f fd) :
    FnOk Pg w K mg base CX0 1 f fd ["value", "least", "greatest"] (spD K 3 P_is_number) := by
  refine F.ok sc_is_number (fun vs H Q E h => h.1) (fun cdv A outer s H vs Q E hr h => ?_)
  have hu := hr.units
  refine ⟨_, PSs.nox (pss_one (ps_ret (pe_and (pe_callB call_isi (by rfl) T.f_isinstance PyProof.Rows.boot_isinstance (pa_cons (pv 0) (pa_cons (pe_bltn (v := .ty "int") (u := .type "int") (by rfl) T.f_int (by decide +kernel) rfl) pa_nil))) (pe_and (pe_not (pe_callB call_isi (by rfl) T.f_isinstance PyProof.Rows.boot_isinstance (pa_cons (pv 0) (pa_cons (pe_bltn (v := .ty "bool") (u := .type "bool") (by rfl) T.f_bool (by decide +kernel) rfl) pa_nil)))) (pe_one (pe_chain op_le op_le (pv 1) (pv 0) (pv 2))))))), body_D (N := ["value", "least", "greatest"]) (by decide) h fun ds d hl hP => ?_⟩

  obtain ⟨v, l, g, rfl, rfl⟩ := hP
  refine sd_ret ?_ rfl
  cases v with
  | int i => exact (xd_and (xd_isint (xd_var rfl)) fun _ => xd_and (xd_not (xd_isbool (xd_var rfl))) fun _ => xd_chain (xd_var rfl) (xd_var rfl) fun _ => xd_var rfl).is rfl
  | bool b => exact (xd_and (b := false) (xd_isint (xd_var rfl)) fun _ => (xd_and (a := false) (b := false) ((xd_not (xd_isbool (xd_var rfl))).is rfl) fun h => nomatch h)).is rfl
  | _ => exact (xd_and (a := false) (b := false) ((xd_isint (xd_var rfl)).is rfl) fun h => nomatch h).is rfl


theorem sc_is_pen : FnScope ["value"] ["value"] (defScope s_is_pen) := ⟨rfl, rfl, rfl, by decide +kernel, rfl, by decide +kernel, by decide +kernel⟩
theorem ok_is_pen {Pg : Program} {w : World} {K : PySem.W.Frag} {mg : Str → Option Value} {base : Heap} (T : Txt K mg) (C_is_number : Cal Pg w K mg base "is_number" 1 3 P_is_number) {f : Addr} {fd : FuncData} (F : FnP K "is_pen" s_is_pen f fd) :
    FnOk Pg w K mg base CX0 2 f fd ["value"] (spD K 1 P_is_pen) := by
  obtain ⟨_, c_MOST_PEN⟩ := T.c_MOST_PEN
  refine F.ok sc_is_pen (fun vs H Q E h => h.1) (fun cdv A outer s H vs Q E hr h => ?_)
  have hu := hr.units
  refine ⟨_, PSs.nox (pss_one (ps_ret (pe_callC C_is_number (hr.mono (by decide)) (by rfl) (pa_cons (pv 0) (pa_cons pe_int (pa_cons (pe_glob (v := .int 15) (by rfl) c_MOST_PEN ⟨_, rfl⟩) pa_nil)))))), body_D (N := ["value"]) (by decide) h fun ds d hl hP => ?_⟩

  obtain ⟨v, rfl, rfl⟩ := hP
  exact sd_ret (xd_call (xa_cons (xd_var rfl) (xa_cons xd_int (xa_cons xd_int xa_nil))) rfl ⟨v, 0, 15, rfl, rfl⟩) rfl


theorem sc_is_char : FnScope ["value"] ["value"] (defScope s_is_char) := ⟨rfl, rfl, rfl, by decide +kernel, rfl, by decide +kernel, by decide +kernel⟩
theorem ok_is_char {Pg : Program} {w : World} {K : PySem.W.Frag} {mg : Str → Option Value} {base : Heap} (T : Txt K mg) {f : Addr} {fd : FuncData} (F : FnP K "is_char" s_is_char f fd) :
    FnOk Pg w K mg base CX0 1 f fd ["value"] (spD K 1 P_is_char) := by
  obtain ⟨_, c_FIRST_CHAR⟩ := T.c_FIRST_CHAR
  obtain ⟨_, c_LAST_CHAR⟩ := T.c_LAST_CHAR
  obtain ⟨_, c_PERCENT_SIGN⟩ := T.c_PERCENT_SIGN
  refine F.ok sc_is_char (fun vs H Q E h => h.1) (fun cdv A outer s H vs Q E hr h => ?_)
  have hu := hr.units
  refine ⟨_, PSs.nox (pss_cons (ps_if (pw_or (pt_not (pt_val (pe_callB call_isi (by rfl) T.f_isinstance PyProof.Rows.boot_isinstance (pa_cons (pv 0) (pa_cons (pe_bltn (v := .ty "str") (u := .type "str") (by rfl) T.f_str (by decide +kernel) rfl) pa_nil))))) (pw_or1 (pt_cmpR op_ne (pe_callB call_len (by rfl) T.f_len boot_len (pa_cons (pv 0) pa_nil)) pe_int (nomark _)))).pt (pss_one (ps_ret pe_bl)) pss_nil)
      (pss_one (ps_ret (pe_and (pe_chain op_le op_le (pe_glob (v := .int 32) (by rfl) c_FIRST_CHAR ⟨_, rfl⟩) (pe_callB call_ord (by rfl) T.f_ord PyProof.Rows.boot_ord (pa_cons (pv 0) pa_nil)) (pe_glob (v := .int 126) (by rfl) c_LAST_CHAR ⟨_, rfl⟩)) (pe_one (pe_cmpR op_ne (pe_callB call_ord (by rfl) T.f_ord PyProof.Rows.boot_ord (pa_cons (pv 0) pa_nil)) (pe_glob (v := .int 37) (by rfl) c_PERCENT_SIGN ⟨_, rfl⟩) (nomark _))))))), body_D (N := ["value"]) (by decide) h fun ds d hl hP => ?_⟩

  obtain ⟨v, rfl, hs, rfl⟩ := hP
  cases v with
  | str x =>
    have hx : x.length ≤ sizeLine := Nat.le_trans hs (by decide)
    refine sd_ifr (xt_or (xt_not (xt_B (xd_isstr (xd_var rfl)))) fun hb => xt_test (xd_neI (xd_cb (xa_cons (xd_var rfl) xa_nil) (rc_lenS hx)) xd_int)) (fun hb => sd_ret xd_bl ?_) (fun hb => ?_)
    · have : x.length ≠ 1 := by
        have : ¬ (x.length : Int) = 1 := by simpa [DD.is_str] using hb
        omega
      simp [isChr, this]
    · have h1 : x.length = 1 := by
        have : (x.length : Int) = 1 := by simpa [DD.is_str] using hb
        omega
      refine sd_ret (xd_and (xd_chain xd_int (xd_cb (xa_cons (xd_var rfl) xa_nil) (rc_ord h1)) fun _ => xd_int) fun _ => xd_neI (xd_cb (xa_cons (xd_var rfl) xa_nil) (rc_ord h1)) xd_int) ?_
      simp only [isChr, h1]
      congr 1
      simp only [decide_true, Bool.true_and]
      congr 1
      · congr 1 <;> exact decide_eq_decide.mpr (by omega)
      · congr 1
        exact decide_eq_decide.mpr (by omega)
  | _ =>
    refine sd_ifr (b := true) (xt_or (a := true) (b := true) ((xt_not (xt_B (xd_isstr (xd_var rfl)))).is rfl) fun h => nomatch h) (fun hb => sd_ret xd_bl rfl) (fun hb => nomatch hb)


theorem sc_are_cells : FnScope ["row", "char", "pen"] ["row"] (defScope s_are_cells) := ⟨rfl, rfl, rfl, by decide +kernel, rfl, by decide +kernel, by decide +kernel⟩
theorem ok_are_cells {Pg : Program} {w : World} {K : PySem.W.Frag} {mg : Str → Option Value} {base : Heap} (T : Txt K mg) (C_is_char : Cal Pg w K mg base "is_char" 1 1 P_is_char) (C_is_pen : Cal Pg w K mg base "is_pen" 2 1 P_is_pen) {f : Addr} {fd : FuncData} (F : FnP K "are_cells" s_are_cells f fd) :
    FnOk Pg w K mg base CX0 3 f fd ["row"] (spD K 1 P_are_cells) := by
  refine F.ok sc_are_cells (fun vs H Q E h => h.1) (fun cdv A outer s H vs Q E hr h => ?_)
  have hu := hr.units
  refine ⟨_, PSs.nox (pss_one (ps_ret (pe_callB (cr_all rfl) (by rfl) T.f_all PyProof.Rows.boot_all (pa_cons (pe_lc (own := [("char", 1), ("pen", 2)]) (g := gTup K 2 (gCons (gName 1) (gCons (gName 2) gNil))) (tt := tYes) (te := (tAndV (tCall (spD K 1 P_is_char) [] E0 (tCons (tVar 1) tNil)) (tCall (spD K 1 P_is_pen) [] E0 (tCons (tVar 2) tNil)))) rfl sc_are_cells.nd (pi_list (pv 0)) (blkOk_by (N := ["row", "char", "pen"]) (sc := (defScope s_are_cells)) (by decide +kernel)) (fun _ _ _ _ _ => (pg_tup rfl (pgs_cons (pg_name (i := 1) sc_are_cells.nd rfl (Or.inl rfl)) (pgs_cons (pg_name (i := 2) sc_are_cells.nd rfl (Or.inl rfl)) pgs_nil)))) (fun _ _ _ _ _ => pts_nil) (fun _ _ _ _ _ => (pe_and (pe_callC C_is_char (hr.mono (by decide)) (by rfl) (pa_cons (pv 1) pa_nil)) (pe_one (pe_callC C_is_pen (hr.mono (by decide)) (by rfl) (pa_cons (pv 2) pa_nil)))))) pa_nil)))), body_D (N := ["row", "char", "pen"]) (by decide) h fun ds d hl hP => ?_⟩

  obtain ⟨r, rfl, h1, h2, rfl⟩ := hP
  refine sd_ret (xd_cb (xa_cons (xo_lcM2 (g := okCell) (h := PyData.bool) (f1 := fun c : Cell => .str c.1) (f2 := fun c : Cell => .int c.2) ("", 0) (xd_var rfl) (by omega) fun c hc => ?_).xd xa_nil) rc_all) ?_
  · exact xd_and (xd_call (xa_cons (xd_var rfl) xa_nil) rfl ⟨_, rfl, h2 c hc, rfl⟩) fun _ => xd_call (xa_cons (xd_var rfl) xa_nil) rfl ⟨_, rfl, rfl⟩
  · rw [List.all_map]; rfl


theorem sc_are_rows : FnScope ["rows", "columns", "row"] ["rows", "columns"] (defScope s_are_rows) := ⟨rfl, rfl, rfl, by decide +kernel, rfl, by decide +kernel, by decide +kernel⟩
theorem ok_are_rows {Pg : Program} {w : World} {K : PySem.W.Frag} {mg : Str → Option Value} {base : Heap} (T : Txt K mg) (C_are_cells : Cal Pg w K mg base "are_cells" 3 1 P_are_cells) {f : Addr} {fd : FuncData} (F : FnP K "are_rows" s_are_rows f fd) :
    FnOk Pg w K mg base CX0 4 f fd ["rows", "columns"] (spD K 2 P_are_rows) := by
  refine F.ok sc_are_rows (fun vs H Q E h => h.1) (fun cdv A outer s H vs Q E hr h => ?_)
  have hu := hr.units
  refine ⟨_, PSs.nox (pss_one (ps_ret (pe_callB (cr_all rfl) (by rfl) T.f_all PyProof.Rows.boot_all (pa_cons (pe_lc (own := [("row", 2)]) (g := gName 2) (tt := tYes) (te := (tAndV (tOp _ (tCB (rLenD K) (tCons (tVar 2) tNil)) (tVar 1)) (tCall (spD K 1 P_are_cells) [] E0 (tCons (tVar 2) tNil)))) rfl sc_are_rows.nd (pi_list (pv 0)) (blkOk_by (N := ["rows", "columns", "row"]) (sc := (defScope s_are_rows)) (by decide +kernel)) (fun _ _ _ _ _ => (pg_name (i := 2) sc_are_rows.nd rfl (Or.inl rfl))) (fun _ _ _ _ _ => pts_nil) (fun _ _ _ _ _ => (pe_and (pe_cmpR op_eq (pe_callB call_len (by rfl) T.f_len boot_len (pa_cons (pv 2) pa_nil)) (pv 1) (nomark _)) (pe_one (pe_callC C_are_cells (hr.mono (by decide)) (by rfl) (pa_cons (pv 2) pa_nil)))))) pa_nil)))), body_D (N := ["rows", "columns", "row"]) (by decide) h fun ds d hl hP => ?_⟩

  obtain ⟨rs, n, rfl, h1, h2, rfl⟩ := hP
  refine sd_ret (xd_cb (xa_cons (xo_lcM (g := okRow n) (h := PyData.bool) [] (xd_var rfl) (by omega) fun r hr => ?_).xd xa_nil) rc_all) ?_
  · exact xd_and (xd_eqI (xd_cb (xa_cons (xd_var rfl) xa_nil) rc_lenM) (xd_var rfl)) fun _ => xd_call (xa_cons (xd_var rfl) xa_nil) rfl ⟨r, rfl, (h2 r hr).1, (h2 r hr).2, rfl⟩
  · rw [List.all_map]; rfl


theorem sc_is_cursor : FnScope ["cursor", "rows", "columns", "row", "column"] ["cursor", "rows", "columns"] (defScope s_is_cursor) := ⟨rfl, rfl, rfl, by decide +kernel, rfl, by decide +kernel, by decide +kernel⟩
theorem ok_is_cursor {Pg : Program} {w : World} {K : PySem.W.Frag} {mg : Str → Option Value} {base : Heap} (T : Txt K mg) {f : Addr} {fd : FuncData} (F : FnP K "is_cursor" s_is_cursor f fd) :
    FnOk Pg w K mg base CX0 1 f fd ["cursor", "rows", "columns"] (spD K 3 P_is_cursor) := by
  refine F.ok sc_is_cursor (fun vs H Q E h => h.1) (fun cdv A outer s H vs Q E hr h => ?_)
  have hu := hr.units
  refine ⟨_, PSs.nox (pss_cons (ps_asg (pv 0) (pg_tup rfl (pgs_cons (pg_name (i := 3) sc_is_cursor.nd rfl (Or.inl rfl)) (pgs_cons (pg_name (i := 4) sc_is_cursor.nd rfl (Or.inl rfl)) pgs_nil))))
      (pss_one (ps_ret (pe_and (pe_chain op_le op_lt pe_int (pv 3) (pv 1)) (pe_one (pe_chain op_le op_le pe_int (pv 4) (pv 2))))))), body_D (N := ["cursor", "rows", "columns", "row", "column"]) (by decide) h fun ds d hl hP => ?_⟩

  obtain ⟨a, b, r, c, rfl, rfl⟩ := hP
  exact sd_asgq (xd_var rfl) (xg_tup (n := 2) (xgs_cons (xg_name 3) (xgs_cons (xg_name 4) xgs_nil)) rfl) <|
    sd_ret (xd_and (xd_chain xd_int (xd_var rfl) fun _ => xd_var rfl) fun _ => xd_chain xd_int (xd_var rfl) fun _ => xd_var rfl) rfl


theorem sc_is_band : FnScope ["band", "rows", "top", "bottom"] ["band", "rows"] (defScope s_is_band) := ⟨rfl, rfl, rfl, by decide +kernel, rfl, by decide +kernel, by decide +kernel⟩
theorem ok_is_band {Pg : Program} {w : World} {K : PySem.W.Frag} {mg : Str → Option Value} {base : Heap} (T : Txt K mg) {f : Addr} {fd : FuncData} (F : FnP K "is_band" s_is_band f fd) :
    FnOk Pg w K mg base CX0 1 f fd ["band", "rows"] (spD K 2 P_is_band) := by
  refine F.ok sc_is_band (fun vs H Q E h => h.1) (fun cdv A outer s H vs Q E hr h => ?_)
  have hu := hr.units
  refine ⟨_, PSs.nox (pss_cons (ps_asg (pv 0) (pg_tup rfl (pgs_cons (pg_name (i := 2) sc_is_band.nd rfl (Or.inl rfl)) (pgs_cons (pg_name (i := 3) sc_is_band.nd rfl (Or.inl rfl)) pgs_nil))))
      (pss_one (ps_ret (pe_ch3 op_le op_le op_lt pe_int (pv 2) (pv 3) (pv 1))))), body_D (N := ["band", "rows", "top", "bottom"]) (by decide) h fun ds d hl hP => ?_⟩

  obtain ⟨a, b, r, rfl, rfl⟩ := hP
  exact sd_asgq (xd_var rfl) (xg_tup (n := 2) (xgs_cons (xg_name 2) (xgs_cons (xg_name 3) xgs_nil)) rfl) <|
    sd_ret (xd_ch3 xd_int (xd_var rfl) (xd_var rfl) (xd_var rfl)) rfl


theorem sc_is_size : FnScope ["cells"] ["cells"] (defScope s_is_size) := ⟨rfl, rfl, rfl, by decide +kernel, rfl, by decide +kernel, by decide +kernel⟩
theorem ok_is_size {Pg : Program} {w : World} {K : PySem.W.Frag} {mg : Str → Option Value} {base : Heap} (T : Txt K mg) {f : Addr} {fd : FuncData} (F : FnP K "is_size" s_is_size f fd) :
    FnOk Pg w K mg base CX0 1 f fd ["cells"] (spD K 1 P_is_size) := by
  obtain ⟨_, c_MOST_COLUMNS⟩ := T.c_MOST_COLUMNS
  obtain ⟨_, c_MOST_ROWS⟩ := T.c_MOST_ROWS
  refine F.ok sc_is_size (fun vs H Q E h => h.1) (fun cdv A outer s H vs Q E hr h => ?_)
  have hu := hr.units
  refine ⟨_, PSs.nox (pss_one (ps_ret (pe_and (pe_chain op_le op_le pe_int (pe_callB call_len (by rfl) T.f_len boot_len (pa_cons (pv 0) pa_nil)) (pe_glob (v := .int 12) (by rfl) c_MOST_ROWS ⟨_, rfl⟩)) (pe_one (pe_chain op_le op_le pe_int (pe_callB call_len (by rfl) T.f_len boot_len (pa_cons (pe_ix ix_list (pv 0) pe_int (fun _ _ => rfl)) pa_nil)) (pe_glob (v := .int 40) (by rfl) c_MOST_COLUMNS ⟨_, rfl⟩)))))), body_D (N := ["cells"]) (by decide) h fun ds d hl hP => ?_⟩

  obtain ⟨rs, rfl, hn, rfl⟩ := hP
  have : 0 < rs.length := List.length_pos_iff.mpr hn
  exact sd_ret (xd_and (xd_chain xd_int (xd_cb (xa_cons (xd_var rfl) xa_nil) rc_lenM) fun _ => xd_int) fun _ => xd_chain xd_int (xd_cb (xa_cons (xd_ixM [] (xd_var rfl) xd_int ⟨by decide, by omega⟩) xa_nil) rc_lenM) fun _ => xd_int) rfl


theorem sc_is_screen : FnScope ["screen", "cells", "cursor", "pen", "band", "_", "saved", "history", "rows", "columns"] ["screen"] (defScope s_is_screen) := ⟨rfl, rfl, rfl, by decide +kernel, rfl, by decide +kernel, by decide +kernel⟩
theorem ok_is_screen {Pg : Program} {w : World} {K : PySem.W.Frag} {mg : Str → Option Value} {base : Heap} (T : Txt K mg) (C_are_rows : Cal Pg w K mg base "are_rows" 4 2 P_are_rows) (C_is_band : Cal Pg w K mg base "is_band" 1 2 P_is_band) (C_is_cursor : Cal Pg w K mg base "is_cursor" 1 3 P_is_cursor) (C_is_pen : Cal Pg w K mg base "is_pen" 2 1 P_is_pen) (C_is_size : Cal Pg w K mg base "is_size" 1 1 P_is_size) {f : Addr} {fd : FuncData} (F : FnP K "is_screen" s_is_screen f fd) :
    FnOk Pg w K mg base CX0 5 f fd ["screen"] (spD K 1 P_is_screen) := by
  obtain ⟨_, c_MOST_HISTORY⟩ := T.c_MOST_HISTORY
  refine F.ok sc_is_screen (fun vs H Q E h => h.1) (fun cdv A outer s H vs Q E hr h => ?_)
  have hu := hr.units
  refine ⟨_, PSs.nox (pss_cons (ps_asg (pv 0) (pg_tup rfl (pgs_cons (pg_name (i := 1) sc_is_screen.nd rfl (Or.inl rfl)) (pgs_cons (pg_name (i := 2) sc_is_screen.nd rfl (Or.inl rfl)) (pgs_cons (pg_name (i := 3) sc_is_screen.nd rfl (Or.inl rfl)) (pgs_cons (pg_name (i := 4) sc_is_screen.nd rfl (Or.inl rfl)) (pgs_cons (pg_name (i := 5) sc_is_screen.nd rfl (Or.inl rfl)) (pgs_cons (pg_name (i := 6) sc_is_screen.nd rfl (Or.inl rfl)) (pgs_cons (pg_name (i := 7) sc_is_screen.nd rfl (Or.inl rfl)) pgs_nil)))))))))
      (pss_cons (ps_if (pt_not (pt_val (pe_callC C_is_size (hr.mono (by decide)) (by rfl) (pa_cons (pv 1) pa_nil)))) (pss_one (ps_ret pe_bl)) pss_nil)
      (pss_cons (ps_set (i := 8) sc_is_screen.nd rfl (Or.inl rfl) (pe_callB call_len (by rfl) T.f_len boot_len (pa_cons (pv 1) pa_nil)))
      (pss_cons (ps_set (i := 9) sc_is_screen.nd rfl (Or.inl rfl) (pe_callB call_len (by rfl) T.f_len boot_len (pa_cons (pe_ix ix_list (pv 1) pe_int (fun _ _ => rfl)) pa_nil)))
      (pss_one (ps_ret (pe_and (pe_callC C_are_rows (hr.mono (by decide)) (by rfl) (pa_cons (pv 1) (pa_cons (pv 9) pa_nil))) (pe_and (pe_callC C_is_cursor (hr.mono (by decide)) (by rfl) (pa_cons (pv 2) (pa_cons (pv 8) (pa_cons (pv 9) pa_nil)))) (pe_and (pe_callC C_is_pen (hr.mono (by decide)) (by rfl) (pa_cons (pv 3) pa_nil)) (pe_and (pe_callC C_is_band (hr.mono (by decide)) (by rfl) (pa_cons (pv 4) (pa_cons (pv 8) pa_nil))) (pe_and (pe_callC C_is_cursor (hr.mono (by decide)) (by rfl) (pa_cons (pe_slice sl_tup (pv 6) po_none (po_some pe_int)) (pa_cons (pv 8) (pa_cons (pv 9) pa_nil)))) (pe_and (pe_callC C_is_pen (hr.mono (by decide)) (by rfl) (pa_cons (pe_ix ix_tup (pv 6) pe_int (fun _ _ => rfl)) pa_nil)) (pe_and (pe_cmpR op_le (pe_callB call_len (by rfl) T.f_len boot_len (pa_cons (pv 7) pa_nil)) (pe_glob (v := .int 50) (by rfl) c_MOST_HISTORY ⟨_, rfl⟩) (nomark _)) (pe_one (pe_callC C_are_rows (hr.mono (by decide)) (by rfl) (pa_cons (pv 7) (pa_cons (pv 9) pa_nil))))))))))))))))), body_D (N := ["screen", "cells", "cursor", "pen", "band", "_", "saved", "history", "rows", "columns"]) (by decide) h fun ds d hl hP => ?_⟩

  obtain ⟨s, rfl, hn, h1, h2, rfl⟩ := hP
  have hpos : 0 < s.cells.length := List.length_pos_iff.mpr hn
  refine sd_asgq (xd_var rfl) (xg_tup (n := 7) (xgs_cons (xg_name 1) (xgs_cons (xg_name 2) (xgs_cons (xg_name 3) (xgs_cons (xg_name 4) (xgs_cons (xg_name 5) (xgs_cons (xg_name 6) (xgs_cons (xg_name 7) xgs_nil))))))) rfl) ?_
  show SD K _ _ [.dt (pS s), .dt (pRs s.cells), .dt (.tuple [.int s.cr, .int s.cc]), .dt (.int s.pen), .dt (.tuple [.int s.top, .int s.bot]), .dt (.bool s.wraps), .dt (.tuple [.int s.sr, .int s.sc, .int s.sp]), .dt (pRs s.hist), .no, .no] _ _
  refine sd_ifr (b := !okSize s.cells) (xt_not (xt_B (xd_call (xa_cons (xd_var rfl) xa_nil) rfl ⟨s.cells, rfl, hn, rfl⟩))) (fun hb => sd_ret xd_bl ?_) (fun hb => ?_)
  · have : okSize s.cells = false := by simpa using hb
    unfold okScr
    rw [this]
    rfl
  · have hz : okSize s.cells = true := by simpa using hb
    refine sd_setq (xd_cb (xa_cons (xd_var rfl) xa_nil) rc_lenM) <| sd_setq (xd_cb (xa_cons (xd_ixM [] (xd_var rfl) xd_int ⟨by decide, by omega⟩) xa_nil) rc_lenM) ?_
    show SD K _ _ [.dt (pS s), .dt (pRs s.cells), .dt (.tuple [.int s.cr, .int s.cc]), .dt (.int s.pen), .dt (.tuple [.int s.top, .int s.bot]), .dt (.bool s.wraps), .dt (.tuple [.int s.sr, .int s.sc, .int s.sp]), .dt (pRs s.hist), .dt (.int s.cells.length), .dt (.int (s.cells.getD 0 []).length)] _ _
    refine sd_ret (xd_and (xd_call (xa_cons (xd_var rfl) (xa_cons (xd_var rfl) xa_nil)) rfl ⟨s.cells, _, rfl, h1.1, h1.2, rfl⟩) fun _ => xd_and (xd_call (xa_cons (xd_var rfl) (xa_cons (xd_var rfl) (xa_cons (xd_var rfl) xa_nil))) rfl ⟨_, _, _, _, rfl, rfl⟩) fun _ =>
      xd_and (xd_call (xa_cons (xd_var rfl) xa_nil) rfl ⟨_, rfl, rfl⟩) fun _ => xd_and (xd_call (xa_cons (xd_var rfl) (xa_cons (xd_var rfl) xa_nil)) rfl ⟨_, _, _, rfl, rfl⟩) fun _ =>
      xd_and (xd_call (xa_cons ((xd_slT (xd_var rfl) xp_none (xp_some xd_int) (by simp [HT.sIx])).is (show _ = PyData.tuple [.int s.sr, .int s.sc] from rfl)) (xa_cons (xd_var rfl) (xa_cons (xd_var rfl) xa_nil))) rfl ⟨_, _, _, _, rfl, rfl⟩) fun _ =>
      xd_and (xd_call (xa_cons (xd_ixT (xd_var rfl) xd_int rfl) xa_nil) rfl ⟨_, rfl, rfl⟩) fun _ => xd_and (xd_B0 (xd_cb (xa_cons (xd_var rfl) xa_nil) rc_lenM) xd_int) fun _ =>
      xd_call (xa_cons (xd_var rfl) (xa_cons (xd_var rfl) xa_nil)) rfl ⟨s.hist, _, rfl, h2.1, h2.2, rfl⟩) ?_
    unfold okScr
    rw [hz, Bool.true_and]


theorem sc_blank_cells : FnScope ["count", "pen"] ["count", "pen"] (defScope s_blank_cells) := ⟨rfl, rfl, rfl, by decide +kernel, rfl, by decide +kernel, by decide +kernel⟩
theorem ok_blank_cells {Pg : Program} {w : World} {K : PySem.W.Frag} {mg : Str → Option Value} {base : Heap} (T : Txt K mg) {f : Addr} {fd : FuncData} (F : FnP K "blank_cells" s_blank_cells f fd) :
    FnOk Pg w K mg base CX0 1 f fd ["count", "pen"] (spD K 2 P_blank_cells) := by
  refine F.ok sc_blank_cells (fun vs H Q E h => h.1) (fun cdv A outer s H vs Q E hr h => ?_)
  have hu := hr.units
  refine ⟨_, PSs.nox (pss_one (ps_ret (pe_op op_rep (pe_lst (pa_cons (pe_tup (pa_cons pe_str (pa_cons (pv 1) pa_nil))) pa_nil)) (pv 0)))), body_D (N := ["count", "pen"]) (by decide) h fun ds d hl hP => ?_⟩

  obtain ⟨n, p, rfl, h0, h1, rfl⟩ := hP
  exact sd_ret (xo_rep1 (xo_lst (xa_cons (xd_tup (xa_cons xd_str (xa_cons (xd_var rfl) xa_nil)) (by simp)) xa_nil) (by simp)) (xd_var rfl) (by omega)).xd (show PyData.list _ = PyData.list (List.map pC _) by rw [List.map_replicate])


theorem sc_untested_start : FnScope ["rows", "columns", "cells", "row"] ["rows", "columns"] (defScope s_untested_start) := ⟨rfl, rfl, rfl, by decide +kernel, rfl, by decide +kernel, by decide +kernel⟩
theorem ok_untested_start {Pg : Program} {w : World} {K : PySem.W.Frag} {mg : Str → Option Value} {base : Heap} (T : Txt K mg) (C_blank_cells : Cal Pg w K mg base "blank_cells" 1 2 P_blank_cells) {f : Addr} {fd : FuncData} (F : FnP K "untested_start" s_untested_start f fd) :
    FnOk Pg w K mg base CX0 2 f fd ["rows", "columns"] (spD K 2 P_untested_start) := by
  refine F.ok sc_untested_start (fun vs H Q E h => h.1) (fun cdv A outer s H vs Q E hr h => ?_)
  have hu := hr.units
  refine ⟨_, PSs.nox (pss_cons (ps_setLc (own := [("row", 3)]) (g := gName 3) (tt := tYes) (te := (tCall (spD K 2 P_blank_cells) [] E0 (tCons (tVar 1) (tCons (tC (.int 0)) tNil)))) (i := 2) rfl sc_untested_start.nd rfl rfl (sw_true rfl rfl rfl (by decide +kernel)) (pi_range1 rfl T.f_range (pa_cons (pv 0) pa_nil)) (blkOk_by (N := ["rows", "columns", "cells", "row"]) (sc := (defScope s_untested_start)) (by decide +kernel)) (fun _ _ _ _ _ => (pg_name (i := 3) sc_untested_start.nd rfl (Or.inl rfl))) (fun _ _ _ _ _ => pts_nil) (fun _ _ _ _ _ => (pe_callC C_blank_cells (hr.mono (by decide)) (by rfl) (pa_cons (pv 1) (pa_cons pe_int pa_nil)))))
      (pss_one (ps_ret (pe_tup (pa_cons (pv 2) (pa_cons (pe_tup (pa_cons pe_int (pa_cons pe_int pa_nil))) (pa_cons pe_int (pa_cons (pe_tup (pa_cons pe_int (pa_cons (pe_op op_sub (pv 0) pe_int) pa_nil))) (pa_cons pe_bl (pa_cons (pe_tup (pa_cons pe_int (pa_cons pe_int (pa_cons pe_int pa_nil)))) (pa_cons (pe_lst pa_nil) pa_nil))))))))))), body_D (N := ["rows", "columns", "cells", "row"]) (by decide) h fun ds d hl hP => ?_⟩

  obtain ⟨r, c, rfl, h0, h1, h2, h3, rfl⟩ := hP
  refine sd_setOq (xo_lcR (g := fun _ => List.replicate c.toNat ((" ", 0) : Cell)) (h := pR) (xa_cons (xd_var rfl) xa_nil) (by omega) fun i hi => xd_call (xa_cons (xd_var rfl) (xa_cons xd_int xa_nil)) rfl ⟨c, 0, rfl, h2, by omega, rfl⟩) <| sd_frz 2 rfl ?_
  refine sd_ret (xd_tup (xa_cons (xd_var rfl) (xa_cons (xd_tup (xa_cons xd_int (xa_cons xd_int xa_nil)) (by simp)) (xa_cons xd_int (xa_cons (xd_tup (xa_cons xd_int (xa_cons (xd_I0 (xd_var rfl) xd_int) xa_nil)) (by simp)) (xa_cons xd_bl (xa_cons (xd_tup (xa_cons xd_int (xa_cons xd_int (xa_cons xd_int xa_nil))) (by simp)) (xa_cons (xo_lst xa_nil (by simp)).xd xa_nil))))))) (by simp)) ?_
  have e : (List.range r.toNat).map (fun _ => List.replicate c.toNat ((" ", 0) : Cell)) = List.replicate r.toNat (List.replicate c.toNat ((" ", 0) : Cell)) := by
    apply List.ext_getElem <;> simp
  rw [e]
  rfl


theorem sc_start_screen : FnScope ["rows", "columns"] ["rows", "columns"] (defScope s_start_screen) := ⟨rfl, rfl, rfl, by decide +kernel, rfl, by decide +kernel, by decide +kernel⟩
theorem ok_start_screen {Pg : Program} {w : World} {K : PySem.W.Frag} {mg : Str → Option Value} {base : Heap} (T : Txt K mg) (C_is_number : Cal Pg w K mg base "is_number" 1 3 P_is_number) (C_untested_start : Cal Pg w K mg base "untested_start" 2 2 P_untested_start) (C_ErrI : CalI Pg w K mg base (He.ma K (He.ga K "ScreenError") "__init__") 1) {f : Addr} {fd : FuncData} (F : FnP K "start_screen" s_start_screen f fd) :
    FnOk Pg w K mg base (CX Pg w) 3 f fd ["rows", "columns"] (spE K 2 P_start_screen (PX_start_screen K)) := by
  obtain ⟨_, c_MOST_COLUMNS⟩ := T.c_MOST_COLUMNS
  obtain ⟨_, c_MOST_ROWS⟩ := T.c_MOST_ROWS
  refine F.ok sc_start_screen (fun vs H Q E h => h.1) (fun cdv A outer s H vs Q E hr h => ?_)
  have hu := hr.units
  refine ⟨_, (pss_cons (ps_if (pt_not (pt_val (pe_callC C_is_number (hr.mono (by decide)) (by rfl) (pa_cons (pv 0) (pa_cons pe_int (pa_cons (pe_glob (v := .int 12) (by rfl) c_MOST_ROWS ⟨_, rfl⟩) pa_nil)))))) (pss_one (ps_rz rfl (takes_of rfl rfl rfl rfl) T.e_OutOfRange C_ErrI (hr.mono (by decide)) (by rfl) T.g_OutOfRange pe_int)) pss_nil)
      (pss_cons (ps_if (pt_not (pt_val (pe_callC C_is_number (hr.mono (by decide)) (by rfl) (pa_cons (pv 1) (pa_cons pe_int (pa_cons (pe_glob (v := .int 40) (by rfl) c_MOST_COLUMNS ⟨_, rfl⟩) pa_nil)))))) (pss_one (ps_rz rfl (takes_of rfl rfl rfl rfl) T.e_OutOfRange C_ErrI (hr.mono (by decide)) (by rfl) T.g_OutOfRange pe_int)) pss_nil)
      (pss_one (ps_ret (pe_callC C_untested_start (hr.mono (by decide)) (by rfl) (pa_cons (pv 0) (pa_cons (pv 1) pa_nil))))))), body_E (N := ["rows", "columns"]) (by decide) h fun ds Rd BX B hl hP hE => ?_⟩

  obtain ⟨r, c, rfl⟩ : ∃ r c : Int, ds = [.int r, .int c] := by
    rcases hP with ⟨d, ⟨r, c, e, _⟩, _⟩ | ⟨C, i, ⟨_, r, c, e, _⟩, _⟩
    · exact ⟨r, c, e⟩
    · exact ⟨r, c, e⟩
  refine sd_ifr (b := !(isNum (.int r) 1 12)) (xt_not (xt_B (xd_call (xa_cons (xd_var rfl) (xa_cons xd_int (xa_cons xd_int xa_nil))) rfl ⟨.int r, 1, 12, rfl, rfl⟩))) (fun hb => ?_) (fun hb => ?_)
  · have hr : ¬ (1 ≤ r ∧ r ≤ 12) := by
      have h : r < 1 ∨ 12 < r := by simpa [isNum] using hb
      omega
    rcases hP with ⟨d, ⟨r', c', e, h1, h2, _⟩, _⟩ | ⟨C, i, ⟨rfl, r', c', e, h⟩, hx⟩
    · cases e; exact (hr ⟨h1, h2⟩).elim
    · cases e
      rcases h with ⟨_, rfl⟩ | ⟨h, _⟩
      · exact sd_rz T.e_OutOfRange xd_int (by decide) (hE _ _ hx)
      · exact (hr h).elim
  · have hr : 1 ≤ r ∧ r ≤ 12 := by simpa [isNum] using hb
    refine sd_ifr (b := !(isNum (.int c) 1 40)) (xt_not (xt_B (xd_call (xa_cons (xd_var rfl) (xa_cons xd_int (xa_cons xd_int xa_nil))) rfl ⟨.int c, 1, 40, rfl, rfl⟩))) (fun hb => ?_) (fun hb => ?_)
    · have hc : ¬ (1 ≤ c ∧ c ≤ 40) := by
        have h : c < 1 ∨ 40 < c := by simpa [isNum] using hb
        omega
      rcases hP with ⟨d, ⟨r', c', e, _, _, h1, h2, _⟩, _⟩ | ⟨C, i, ⟨rfl, r', c', e, h⟩, hx⟩
      · cases e; exact (hc ⟨h1, h2⟩).elim
      · cases e
        rcases h with ⟨h, _⟩ | ⟨_, _, rfl⟩
        · exact (h hr).elim
        · exact sd_rz T.e_OutOfRange xd_int (by decide) (hE _ _ hx)
    · have hc : 1 ≤ c ∧ c ≤ 40 := by simpa [isNum] using hb
      rcases hP with ⟨d, ⟨r', c', e, h1, h2, h3, h4, rfl⟩, hd⟩ | ⟨C, i, ⟨rfl, r', c', e, h⟩, hx⟩
      · cases e
        exact sd_ret (xd_call (xa_cons (xd_var rfl) (xa_cons (xd_var rfl) xa_nil)) rfl ⟨r, c, rfl, by omega, by omega, by omega, by omega, rfl⟩) (hd _ rfl)
      · cases e
        rcases h with ⟨h, _⟩ | ⟨_, h, _⟩
        · exact (h hr).elim
        · exact (h hc).elim


theorem sc_row_text : FnScope ["row", "cell"] ["row"] (defScope s_row_text) := ⟨rfl, rfl, rfl, by decide +kernel, rfl, by decide +kernel, by decide +kernel⟩
theorem ok_row_text {Pg : Program} {w : World} {K : PySem.W.Frag} {mg : Str → Option Value} {base : Heap} (T : Txt K mg) {f : Addr} {fd : FuncData} (F : FnP K "row_text" s_row_text f fd) :
    FnOk Pg w K mg base CX0 1 f fd ["row"] (spD K 1 P_row_text) := by
  refine F.ok sc_row_text (fun vs H Q E h => h.1) (fun cdv A outer s H vs Q E hr h => ?_)
  have hu := hr.units
  refine ⟨_, PSs.nox (pss_one (ps_ret (pe_bm PySem.F.plainAttrs_str PySem.F.slot_str_join PySem.F.type_str_join mt_join pe_str (pa_cons (pe_lc (own := [("cell", 1)]) (g := gName 1) (tt := tYes) (te := (tOp (rIxT K) (tVar 1) (tC (.int 0)))) rfl sc_row_text.nd (pi_list (pv 0)) (blkOk_by (N := ["row", "cell"]) (sc := (defScope s_row_text)) (by decide +kernel)) (fun _ _ _ _ _ => (pg_name (i := 1) sc_row_text.nd rfl (Or.inl rfl))) (fun _ _ _ _ _ => pts_nil) (fun _ _ _ _ _ => (pe_ix ix_tup (pv 1) pe_int (fun _ _ => rfl)))) pa_nil)))), body_D (N := ["row", "cell"]) (by decide) h fun ds d hl hP => ?_⟩

  obtain ⟨r, rfl, h1, h2, rfl⟩ := hP
  refine sd_ret (xd_join0 1 xd_str (xo_lcM (g := fun c : Cell => c.1) (h := PyData.str) ("", 0) (xd_var rfl) (by omega) fun c hc => xd_ixT (xd_var rfl) xd_int rfl).xd ?_ (by rw [List.length_map]; omega)) rfl
  intro y hy
  obtain ⟨c, hc, rfl⟩ := List.mem_map.mp hy
  exact h2 c hc


theorem sc_shown_text : FnScope ["screen", "row"] ["screen"] (defScope s_shown_text) := ⟨rfl, rfl, rfl, by decide +kernel, rfl, by decide +kernel, by decide +kernel⟩
theorem ok_shown_text {Pg : Program} {w : World} {K : PySem.W.Frag} {mg : Str → Option Value} {base : Heap} (T : Txt K mg) (C_row_text : Cal Pg w K mg base "row_text" 1 1 P_row_text) {f : Addr} {fd : FuncData} (F : FnP K "shown_text" s_shown_text f fd) :
    FnOk Pg w K mg base CX0 2 f fd ["screen"] (spD K 1 P_shown_text) := by
  refine F.ok sc_shown_text (fun vs H Q E h => h.1) (fun cdv A outer s H vs Q E hr h => ?_)
  have hu := hr.units
  refine ⟨_, PSs.nox (pss_one (ps_ret (pe_bm PySem.F.plainAttrs_str PySem.F.slot_str_join PySem.F.type_str_join mt_join pe_str (pa_cons (pe_lc (own := [("row", 1)]) (g := gName 1) (tt := tYes) (te := (tOp _ (tCall (spD K 1 P_row_text) [] E0 (tCons (tVar 1) tNil)) (tC _))) rfl sc_shown_text.nd (pi_list (pe_ix ix_tup (pv 0) pe_int (fun _ _ => rfl))) (blkOk_by (N := ["screen", "row"]) (sc := (defScope s_shown_text)) (by decide +kernel)) (fun _ _ _ _ _ => (pg_name (i := 1) sc_shown_text.nd rfl (Or.inl rfl))) (fun _ _ _ _ _ => pts_nil) (fun _ _ _ _ _ => (pe_op op_add_str (pe_callC C_row_text (hr.mono (by decide)) (by rfl) (pa_cons (pv 1) pa_nil)) pe_str))) pa_nil)))), body_D (N := ["screen", "row"]) (by decide) h fun ds d hl hP => ?_⟩

  obtain ⟨s, rfl, h1, h2, rfl⟩ := hP
  have hl : ∀ r ∈ s.cells, (rowText r).length ≤ 1000 := fun r hr => by
    have := catAll_len 1 (r.map (·.1)) (by intro y hy; obtain ⟨c, hc, rfl⟩ := List.mem_map.mp hy; exact (h2 r hr).2 c hc)
    rw [List.length_map] at this
    have := (h2 r hr).1
    unfold rowText
    omega
  have hnl : ("\n" : Str).length = 1 := by decide +kernel
  refine sd_ret (xd_join0 1001 xd_str (xo_lcM (xs := s.cells) (f := pR) (g := fun r => rowText r ++ "\n") (h := PyData.str) [] (xd_ixT (xd_var rfl) xd_int rfl) (by omega) fun r hr => xd_catS (xd_call (ds := [pR r]) (d := .str (rowText r)) (xa_cons (xd_var rfl) xa_nil) rfl ⟨r, rfl, (h2 r hr).1, (h2 r hr).2, rfl⟩) xd_str ?_).xd ?_ ?_) rfl
  · have := hl r hr
    omega
  · intro y hy
    obtain ⟨r, hr, rfl⟩ := List.mem_map.mp hy
    have := hl r hr
    rw [len_app]
    omega
  · rw [List.length_map]
    omega


theorem ok_copied_own {Pg : Program} {w : World} {K : PySem.W.Frag} {mg : Str → Option Value} {base : Heap} (T : Txt K mg) {f : Addr} {fd : FuncData} (F : FnP K "copied_rows" s_copied_rows f fd) :
    FnOk Pg w K mg base CX0 1 f fd ["rows"] (spCopy K) := by
  refine F.ok (⟨rfl, rfl, rfl, by decide +kernel, rfl, by decide +kernel, by decide +kernel⟩ : FnScope ["rows", "row"] ["rows"] (defScope s_copied_rows)) (fun vs H Q E h => h.1) (fun cdv A outer s H vs Q E hr h => ?_)
  have hnd : (["rows", "row"] : List Str).Nodup := by decide +kernel
  refine ⟨_, PSs.nox (pss_one (ps_ret (pe_lc (own := [("row", 1)]) (g := gName 1) (tt := tYes) (te := (tCB (rListD K) (tCons (tVar 1) tNil))) rfl hnd (pi_list (pv 0)) (blkOk_by (N := ["rows", "row"]) (sc := (defScope s_copied_rows)) (by decide +kernel)) (fun _ _ _ _ _ => (pg_name (i := 1) hnd rfl (Or.inl rfl))) (fun _ _ _ _ _ => pts_nil) (fun _ _ _ _ _ => (pe_callTy call_list_of (by rfl) T.f_list (by decide +kernel) (pa_cons (pv 1) pa_nil)))))), ?_⟩
  obtain ⟨_, F', v, rows, rfl, le, hv, hn, q⟩ := h
  exact copy_run le hv hn q
def P_look (d : PyData) (rows : List (List PyData)) (d2 d3 : PyData) : Prop := ∃ s : Scr, d = pS s ∧ s.cells.length ≤ 50000 ∧ rows = s.cells.map (·.map pC) ∧ d2 = .tuple [.int s.cr, .int s.cc] ∧ d3 = .int s.pen
theorem sc_look : FnScope ["screen", "cells", "cursor", "pen"] ["screen"] (defScope s_look) := ⟨rfl, rfl, rfl, by decide +kernel, rfl, by decide +kernel, by decide +kernel⟩
theorem ok_look_own {Pg : Program} {w : World} {K : PySem.W.Frag} {mg : Str → Option Value} {base : Heap} (T : Txt K mg) (C_copy : CalS Pg w K mg base "copied_rows" 1 (spCopy K)) {f : Addr} {fd : FuncData} (F : FnP K "look" s_look f fd) :
    FnOk Pg w K mg base CX0 2 f fd ["screen"] (spTri K P_look) := by
  refine F.ok sc_look (fun vs H Q E h => h.1) (fun cdv A outer s H vs Q E hr h => ?_)
  refine ⟨_, PSs.nox (pss_cons (ps_asg (pe_slice sl_tup (pv 0) po_none (po_some pe_int)) (pg_tup rfl (pgs_cons (pg_name (i := 1) sc_look.nd rfl (Or.inl rfl)) (pgs_cons (pg_name (i := 2) sc_look.nd rfl (Or.inl rfl)) (pgs_cons (pg_name (i := 3) sc_look.nd rfl (Or.inl rfl)) pgs_nil)))))
      (pss_one (ps_ret (pe_tup (pa_cons (pe_callSp C_copy (hr.mono (by decide)) (by rfl) (pa_cons (pv 1) pa_nil)) (pa_cons (pv 2) (pa_cons (pv 3) pa_nil))))))), ?_⟩

  obtain ⟨_, F', v, d, rows, d2, d3, rfl, le, hv, ⟨s, rfl, hn, rfl, rfl, rfl⟩, q⟩ := h
  have E := env_start (N := ["screen", "cells", "cursor", "pen"]) (vs := [v]) (ds := [pS s]) le (.cons hv .nil) (by simp)
  refine (xd_slT (ds := [pRs s.cells, .tuple [.int s.cr, .int s.cc], .int s.pen, .tuple [.int s.top, .int s.bot], .bool s.wraps, .tuple [.int s.sr, .int s.sc, .int s.sp], pRs s.hist]) (xd_var rfl) xp_none (xp_some xd_int) (by simp [HT.sIx])) F' H F' H _ E _ fun v1 F1 H1 g1 d1 => ?_
  refine (xg_tup (n := 3) (xgs_cons (d := pRs s.cells) (xg_name 1) (xgs_cons (d := .tuple [.int s.cr, .int s.cc]) (xg_name 2) (xgs_cons (d := .int s.pen) (xg_name 3) xgs_nil))) rfl) F' H F1 H1 _ v1 (E.grow g1) d1 _ fun σ2 E2 _ => ?_
  obtain ⟨w1, a1, b1⟩ := E2.data (i := 1) (d := pRs s.cells) rfl
  obtain ⟨w2, a2, b2⟩ := E2.data (i := 2) (d := .tuple [.int s.cr, .int s.cc]) rfl
  obtain ⟨w3, a3, b3⟩ := E2.data (i := 3) (d := .int s.pen) rfl
  have eqr : (s.cells.map (·.map pC)).map PyData.list = s.cells.map pR := by rw [List.map_map]; rfl
  refine ⟨w1, a1, rfl, F1, w1, s.cells.map (·.map pC), rfl, E2.le, by rw [eqr]; exact b1, by rw [List.length_map]; exact hn, fun c rs H2 g2 h0 O => ⟨w2, a2, w3, a3, by show 3 ≤ sizeLine; decide, fun t ht => ?_⟩⟩
  have htH : H1 t = none := Evl.fresh_back g2.h ht
  have nt : t ∉ c :: rs := fun z => by
    rcases List.mem_cons.mp z with rfl | z
    · rw [O.top] at ht; cases ht
    · obtain ⟨vs, h1⟩ := copy_run.paired_mem O.row z
      rw [ht] at h1; cases h1
  have g3 := g2.trans (Gr.newH g2.le ht (.tup [.ref c, w2, w3]))
  refine q t c rs w2 w3 F1 _ (g1.trans g3) (fun z hz => ?_) nt (free_of g1.le htH) (O.ex (Ex.new ht)) upd_same b2 b3
  rcases List.mem_cons.mp hz with rfl | hz
  · exact Evl.fresh_back g1.h htH
  · exact Evl.fresh_back g1.h (h0 z hz)

def startedD (r c : Int) : PyData := if 1 ≤ r ∧ r ≤ 12 then if 1 ≤ c ∧ c ≤ 40 then pS (startScr r c) else .int 1 else .int 0
def P_law_started : List PyData → PyData → Prop := fun ds d => ∃ r c : Int, ds = [.int r, .int c] ∧ d = startedD r c
theorem sc_law_started : FnScope ["rows", "columns", "e"] ["rows", "columns"] (defScope s_law_started) := ⟨rfl, rfl, rfl, by decide +kernel, rfl, by decide +kernel, by decide +kernel⟩
theorem ok_law_started {Pg : Program} {w : World} {K : PySem.W.Frag} {mg : Str → Option Value} {base : Heap} (T : Txt K mg) (C : CalE Pg w K mg base "start_screen" 3 (spE K 2 P_start_screen (PX_start_screen K))) {f : Addr} {fd : FuncData} (F : FnP K "_law_started" s_law_started f fd) :
    FnOk Pg w K mg base CX0 4 f fd ["rows", "columns"] (spD K 2 P_law_started) := by
  refine F.ok sc_law_started (fun vs H Q E h => h.1) (fun cdv A outer s H vs Q E hr h => ?_)
  obtain ⟨fS, fdS, psS, hm, hk, hb, FS⟩ := C
  refine ⟨_, PSs.nox (pss_one (ps_try_as (i := 2) rfl rfl sc_law_started.nd rfl rfl ⟨rfl, by decide, .inl T.g_OutOfRange⟩ takes0 (fun W pn xe tk _ => pss_one (ps_ret (pe_callS FS (hr.mono (by decide)) rfl hm hk hb (fun σ => passAt tk σ) (pa_cons (pv 0) (pa_cons (pv 1) pa_nil)))))
    (fun a oe cls d pn hz hf => pss_one (ps_ret (pe_xf T.e_OutOfRange.xf T.e_OutOfRange.noAt hz hf (pv 2)))))), ?_⟩
  obtain ⟨_, F', ds, d, le, hd, ⟨r, c, rfl, rfl⟩, q⟩ := h
  obtain ⟨v, v', rfl, dv, dv'⟩ := dpa2 hd
  refine ⟨v, rfl, v', rfl, rfl, F', [.int r, .int c], le, hd, ?_⟩
  by_cases h1 : 1 ≤ r ∧ r ≤ 12
  · by_cases h2 : 1 ≤ c ∧ c ≤ 40
    · exact .inl ⟨_, ⟨r, c, rfl, h1.1, h1.2, h2.1, h2.2, rfl⟩, fun v F'' H' g dv => q v F'' H' g (by unfold startedD; rw [if_pos h1, if_pos h2]; exact dv)⟩
    · have e : startedD r c = .int 1 := by unfold startedD; rw [if_pos h1, if_neg h2]
      exact .inr ⟨_, 1, ⟨rfl, r, c, rfl, .inr ⟨h1, h2, rfl⟩⟩, fun F'' H' dx g h1 h2 h3 => ⟨true, T.x_OutOfRange, fun _ a ha => ⟨.ref a, rfl, rfl, rfl, dx, _, .int 1, rfl, h3, rfl, q _ F'' H' g (by rw [e]; exact .int 1)⟩, fun z => nomatch z⟩⟩
  · have e : startedD r c = .int 0 := by unfold startedD; rw [if_neg h1]
    exact .inr ⟨_, 0, ⟨rfl, r, c, rfl, .inl ⟨h1, rfl⟩⟩, fun F'' H' dx g h1 h2 h3 => ⟨true, T.x_OutOfRange, fun _ a ha => ⟨.ref a, rfl, rfl, rfl, dx, _, .int 0, rfl, h3, rfl, q _ F'' H' g (by rw [e]; exact .int 0)⟩, fun z => nomatch z⟩⟩


theorem xd_isnB {K : PySem.W.Frag} {ρ : List Sl} {ta tb : TE} {a b : Bool} (ha : XD K ta ρ (.bool a)) (hb : XD K tb ρ (.bool b)) : XD K (tOp (fun x y H Q => ∃ a b, x = .bl a ∧ y = .bl b ∧ Q (.bl (!decide (a = b))) H) ta tb) ρ (.bool (!decide (a = b))) :=
  xd_op ha hb fun F H x y le hx hy Q q => ⟨a, b, dp_bl hx, dp_bl hy, q _ F H (Gr.refl le) (.bl _)⟩
def textTo (rs : List (List Cell)) : Str := catAll (rs.map fun r => rowText r ++ "\n")
theorem catAll_snoc : ∀ (xs : List Str) (y : Str), catAll (xs ++ [y]) = catAll xs ++ y
  | [], y => by show y ++ Str.empty = Str.empty ++ y; rw [app_empty, empty_app]
  | x :: xs, y => by
    show x ++ catAll (xs ++ [y]) = (x ++ catAll xs) ++ y
    rw [catAll_snoc xs y, app_assoc]
theorem textTo_snoc (rs : List (List Cell)) (r : List Cell) : textTo (rs ++ [r]) = textTo rs ++ rowText r ++ "\n" := by
  unfold textTo
  rw [List.map_append]
  show catAll (_ ++ [rowText r ++ "\n"]) = _
  rw [catAll_snoc, app_assoc]
def shownD (s : Scr) : PyData := .tuple [pRs s.cells, .tuple [.int s.cr, .int s.cc], .int s.pen]
theorem ex_rep {α : Type} (n : Nat) (x : α) : (List.range n).map (fun _ => x) = List.replicate n x := by
  rw [List.map_const', List.length_range]


/-! the sums of the law -/
theorem str1 (n : Nat) : (⟨#[n]⟩ : Str).length = 1 := rfl
theorem tab_ok : charTab.cps.toList.all (fun x => decide (32 ≤ x) && decide (x ≤ 126) && !decide (x = 37)) = true := by decide +kernel
theorem tab_len : charTab.cps.toList.length = 94 := by decide +kernel
theorem tab_at (c : Int) : ∃ x, m_char c = ⟨#[x]⟩ ∧ 32 ≤ x ∧ x ≤ 126 ∧ x ≠ 37 := by
  have hlt : (c % 94).toNat < charTab.cps.toList.length := by rw [tab_len]; omega
  have h := List.all_eq_true.mp tab_ok _ (getD_mem (d := 0) hlt)
  simp only [Bool.and_eq_true, decide_eq_true_eq, Bool.not_eq_true', decide_eq_false_iff_not] at h
  exact ⟨_, rfl, h.1.1, h.1.2, h.2⟩
/-- a cell that is fine: one sign, a pen -/
def fine (c : Cell) : Prop := (∃ x, c.1 = ⟨#[x]⟩ ∧ 32 ≤ x ∧ x ≤ 126 ∧ x ≠ 37) ∧ 0 ≤ c.2 ∧ c.2 ≤ 15
theorem fine_ok {c : Cell} (h : fine c) : okCell c = true := by
  obtain ⟨⟨x, e, h1, h2, h3⟩, h4, h5⟩ := h
  unfold okCell
  rw [e]
  show ((decide ((⟨#[x]⟩ : Str).length = 1) && (decide (32 ≤ x) && decide (x ≤ 126) && !decide (x = 37))) && (decide (0 ≤ c.2) && decide (c.2 ≤ 15))) = true
  rw [str1]
  simp [h1, h2, h3, h4, h5]
theorem fine_len {c : Cell} (h : fine c) : c.1.length ≤ 1 := by
  obtain ⟨⟨x, e, _⟩, _⟩ := h
  rw [e]
  exact Nat.le_refl 1
theorem fine_char {k : Int} {p : Int} (h1 : 0 ≤ p) (h2 : p ≤ 15) : fine (m_char k, p) := ⟨tab_at k, h1, h2⟩
theorem sp32 : (" " : Str) = ⟨#[32]⟩ := by decide +kernel
theorem fine_sp {p : Int} (h1 : 0 ≤ p) (h2 : p ≤ 15) : fine (" ", p) := ⟨⟨32, sp32, by decide, by decide, by decide⟩, h1, h2⟩
theorem fine_cellOf (v : Int) : fine (cellOf v) := by
  unfold cellOf
  split
  · exact fine_sp (by omega) (by omega)
  · exact fine_char (by omega) (by omega)
theorem fine_and : ∀ h : Nat, h < 51 → 0 ≤ Builtin.bitAnd (h : Int) 15 ∧ Builtin.bitAnd (h : Int) 15 ≤ 15 := by
  have : ∀ h : Fin 51, 0 ≤ Builtin.bitAnd (h.val : Int) 15 ∧ Builtin.bitAnd (h.val : Int) 15 ≤ 15 := by decide +kernel
  exact fun h hh => this ⟨h, hh⟩
theorem at_mem {α : Type} {xs : List α} {n : Nat} {d : α} : xs.getD n d ∈ xs ∨ xs.getD n d = d := by
  by_cases h : n < xs.length
  · exact .inl (getD_mem h)
  · rw [List.getD_eq_getElem?_getD, List.getElem?_eq_none (by omega)]
    exact .inr rfl
/-- a screen that is fine -/
structure Fine (s : Scr) (R C : Nat) : Prop where
  r1 : 1 ≤ R
  r2 : R ≤ 12
  c1 : 1 ≤ C
  c2 : C ≤ 40
  rows : s.cells.length = R
  row : ∀ r ∈ s.cells, r.length = C ∧ ∀ c ∈ r, fine c
  cur : 0 ≤ s.cr ∧ s.cr < R ∧ 0 ≤ s.cc ∧ s.cc ≤ C
  pen : 0 ≤ s.pen ∧ s.pen ≤ 15
  band : 0 ≤ s.top ∧ s.top ≤ s.bot ∧ s.bot < R
  sav : 0 ≤ s.sr ∧ s.sr < R ∧ 0 ≤ s.sc ∧ s.sc ≤ C
  spen : 0 ≤ s.sp ∧ s.sp ≤ 15
  many : s.hist.length ≤ 50
  hrow : ∀ r ∈ s.hist, r.length = C ∧ ∀ c ∈ r, fine c
theorem Fine.row0 {s : Scr} {R C : Nat} (h : Fine s R C) : (s.cells.getD 0 []).length = C := (h.row _ (getD_mem (by have := h.rows; have := h.r1; omega))).1
theorem Fine.ne {s : Scr} {R C : Nat} (h : Fine s R C) : s.cells ≠ [] := fun z => by
  have := h.rows; have := h.r1
  rw [z, List.length_nil] at *
  omega
theorem okRow_of {n : Nat} {r : List Cell} (h : r.length = n ∧ ∀ c ∈ r, fine c) : okRow n r = true := by
  unfold okRow
  rw [Bool.and_eq_true]
  exact ⟨decide_eq_true (by rw [h.1]), List.all_eq_true.mpr fun c hc => fine_ok (h.2 c hc)⟩
theorem Fine.ok {s : Scr} {R C : Nat} (h : Fine s R C) : okScr s = true := by
  have e := h.row0
  have er := h.rows
  have e1 := h.r1; have e2 := h.r2; have e3 := h.c1; have e4 := h.c2
  obtain ⟨a1, a2, a3, a4⟩ := h.cur
  obtain ⟨b1, b2⟩ := h.pen
  obtain ⟨d1, d2, d3⟩ := h.band
  obtain ⟨f1, f2, f3, f4⟩ := h.sav
  obtain ⟨g1, g2⟩ := h.spen
  have m := h.many
  have k1 : s.cells.all (okRow C) = true := List.all_eq_true.mpr fun r hr => okRow_of (h.row r hr)
  have k2 : s.hist.all (okRow C) = true := List.all_eq_true.mpr fun r hr => okRow_of (h.hrow r hr)
  have k3 : okSize s.cells = true := by
    unfold okSize
    rw [e, er]
    simp only [Bool.and_eq_true, decide_eq_true_eq]
    omega
  have k4 : okCur s.cr s.cc R C = true := by
    unfold okCur
    simp only [Bool.and_eq_true, decide_eq_true_eq]
    exact ⟨⟨a1, a2⟩, a3, a4⟩
  have k5 : okCur s.sr s.sc R C = true := by
    unfold okCur
    simp only [Bool.and_eq_true, decide_eq_true_eq]
    exact ⟨⟨f1, f2⟩, f3, f4⟩
  have k6 : okBand s.top s.bot R = true := by
    unfold okBand
    simp only [Bool.and_eq_true, decide_eq_true_eq]
    exact ⟨⟨d1, d2⟩, d3⟩
  have k7 : isNum (.int s.pen) 0 15 = true := by
    unfold isNum
    simp only [Bool.and_eq_true, decide_eq_true_eq]
    exact ⟨b1, b2⟩
  have k8 : isNum (.int s.sp) 0 15 = true := by
    unfold isNum
    simp only [Bool.and_eq_true, decide_eq_true_eq]
    exact ⟨g1, g2⟩
  have k9 : decide ((s.hist.length : Int) ≤ 50) = true := decide_eq_true (by omega)
  unfold okScr
  rw [e, er, k1, k2, k3, k4, k5, k6, k7, k8, k9]
  rfl
theorem Fine.even {s : Scr} {R C : Nat} (h : Fine s R C) : evenScr s := by
  have e := h.row0
  have er := h.rows
  have e1 := h.r1; have e2 := h.r2; have e3 := h.c1; have e4 := h.c2; have m := h.many
  exact ⟨h.ne, by omega, fun r hr => by rw [e]; exact (h.row r hr).1, by omega, by omega, by omega⟩
theorem Fine.small {s : Scr} {R C : Nat} (h : Fine s R C) : s.cells ≠ [] ∧ smallRows s.cells ∧ smallRows s.hist := by
  have e1 := h.r2; have e2 := h.rows; have e4 := h.c2; have m := h.many
  exact ⟨h.ne, ⟨by omega, fun r hr => ⟨by have := (h.row r hr).1; omega, fun c hc => Nat.le_trans (fine_len ((h.row r hr).2 c hc)) (by decide)⟩⟩, ⟨by omega, fun r hr => ⟨by have := (h.hrow r hr).1; omega, fun c hc => Nat.le_trans (fine_len ((h.hrow r hr).2 c hc)) (by decide)⟩⟩⟩
theorem tame_cell {c : Cell} (h : fine c) : tame (pC c) = true ∧ wt (pC c) ≤ 51 ∧ (pC c).depth ≤ 2 := by
  obtain ⟨⟨x, e, h1, h2, _⟩, h4, h5⟩ := h
  obtain ⟨a, b⟩ := c
  cases (show a = _ from e)
  refine ⟨?_, ?_, ?_⟩
  · show (([x].all fun c => decide (c < 1114112)) && (decide (b.natAbs < 2 ^ 30) && true)) = true
    simp only [List.all_cons, List.all_nil, Bool.and_true, Bool.and_eq_true, decide_eq_true_eq]
    have h4 : 0 ≤ b := h4
    have h5 : b ≤ 15 := h5
    exact ⟨by omega, Nat.lt_of_le_of_lt (show b.natAbs ≤ 15 by omega) (by decide)⟩
  · show (10 * 1 + 2) + 2 + (32 + 2 + 0) + 3 ≤ 51
    decide
  · show max 0 (max 0 0) + 1 ≤ 2
    decide
theorem tame_rows {rs : List (List Cell)} {n C : Nat} (hn : rs.length ≤ n) (hC : C ≤ 40) (h : ∀ r ∈ rs, r.length = C ∧ ∀ c ∈ r, fine c) : tame (pRs rs) = true ∧ wt (pRs rs) ≤ n * 2124 + 2 ∧ (pRs rs).depth ≤ 4 := by
  refine ⟨tameAll_map fun r hr => tameAll_map fun c hc => (tame_cell ((h r hr).2 c hc)).1, ?_, ?_⟩
  · have h1 : wtAll (rs.map pR) ≤ rs.length * (2122 + 2) := wtAll_map fun r hr => by
      have h2 : wtAll (r.map pC) ≤ r.length * (51 + 2) := wtAll_map fun c hc => (tame_cell ((h r hr).2 c hc)).2.1
      have h3 := (h r hr).1
      show wtAll (r.map pC) + 2 ≤ 2122
      omega
    show wtAll (rs.map pR) + 2 ≤ _
    omega
  · show PyData.depthAll (rs.map pR) + 1 ≤ 4
    refine Nat.succ_le_succ (depthAll_map fun r hr => ?_)
    show PyData.depthAll (r.map pC) + 1 ≤ 3
    exact Nat.succ_le_succ (depthAll_map fun c hc => (tame_cell ((h r hr).2 c hc)).2.2)
theorem nat30 {b : Int} (h1 : -100 ≤ b) (h2 : b ≤ 100) : decide (b.natAbs < 2 ^ 30) = true := decide_eq_true (Nat.lt_of_le_of_lt (show b.natAbs ≤ 100 by omega) (by decide))
theorem Fine.tame {s : Scr} {R C : Nat} (h : Fine s R C) : tame (pS s) = true ∧ (pS s).depth ≤ 60 ∧ wt (pS s) ≤ 16000000 ∧ DD.tame (shownD s) = true ∧ (shownD s).depth ≤ 60 := by
  have e1 := h.r1; have e2 := h.r2; have e3 := h.c1; have e4 := h.c2
  obtain ⟨a1, a2, a3, a4⟩ := h.cur
  obtain ⟨b1, b2⟩ := h.pen
  obtain ⟨d1, d2, d3⟩ := h.band
  obtain ⟨f1, f2, f3, f4⟩ := h.sav
  obtain ⟨g1, g2⟩ := h.spen
  obtain ⟨t1, t2, t3⟩ := tame_rows (n := 12) (by have := h.rows; omega) h.c2 h.row
  obtain ⟨u1, u2, u3⟩ := tame_rows (n := 50) h.many h.c2 h.hrow
  have i1 := nat30 (b := s.cr) (by omega) (by omega)
  have i2 := nat30 (b := s.cc) (by omega) (by omega)
  have i3 := nat30 (b := s.pen) (by omega) (by omega)
  have i4 := nat30 (b := s.top) (by omega) (by omega)
  have i5 := nat30 (b := s.bot) (by omega) (by omega)
  have i6 := nat30 (b := s.sr) (by omega) (by omega)
  have i7 := nat30 (b := s.sc) (by omega) (by omega)
  have i8 := nat30 (b := s.sp) (by omega) (by omega)
  refine ⟨?_, ?_, ?_, ?_, ?_⟩
  · show (DD.tame (pRs s.cells) && ((decide _ && (decide _ && true)) && (decide _ && ((decide _ && (decide _ && true)) && (true && ((decide _ && (decide _ && (decide _ && true))) && (DD.tame (pRs s.hist) && true))))))) = true
    rw [t1, u1, i1, i2, i3, i4, i5, i6, i7, i8]
    rfl
  · show max (pRs s.cells).depth (max (max 0 (max 0 0) + 1) (max 0 (max (max 0 (max 0 0) + 1) (max 0 (max (max 0 (max 0 (max 0 0)) + 1) (max (pRs s.hist).depth 0)))))) + 1 ≤ 60
    omega
  · show wt (pRs s.cells) + 2 + ((32 + 2 + (32 + 2 + 0) + 3) + 2 + (32 + 2 + ((32 + 2 + (32 + 2 + 0) + 3) + 2 + (5 + 2 + ((32 + 2 + (32 + 2 + (32 + 2 + 0)) + 3) + 2 + (wt (pRs s.hist) + 2 + 0)))))) + 3 ≤ 16000000
    omega
  · show (DD.tame (pRs s.cells) && ((decide _ && (decide _ && true)) && (decide _ && true))) = true
    rw [t1, i1, i2, i3]
    rfl
  · show max (pRs s.cells).depth (max (max 0 (max 0 0) + 1) (max 0 0)) + 1 ≤ 60
    omega
theorem fine_start {r c : Int} (h1 : 1 ≤ r ∧ r ≤ 12) (h2 : 1 ≤ c ∧ c ≤ 40) : Fine (startScr r c) r.toNat c.toNat where
  r1 := by omega
  r2 := by omega
  c1 := by omega
  c2 := by omega
  rows := List.length_replicate
  row := fun x hx => by
    cases List.eq_of_mem_replicate hx
    exact ⟨List.length_replicate, fun y hy => by cases List.eq_of_mem_replicate hy; exact fine_sp (by decide) (by decide)⟩
  cur := ⟨Int.le_refl 0, by show (0 : Int) < _; omega, Int.le_refl 0, by show (0 : Int) ≤ _; omega⟩
  pen := ⟨Int.le_refl 0, by show (0 : Int) ≤ 15; decide⟩
  band := ⟨Int.le_refl 0, by show (0 : Int) ≤ r - 1; omega, by show r - 1 < _; omega⟩
  sav := ⟨Int.le_refl 0, by show (0 : Int) < _; omega, Int.le_refl 0, by show (0 : Int) ≤ _; omega⟩
  spen := ⟨Int.le_refl 0, by show (0 : Int) ≤ 15; decide⟩
  many := Nat.zero_le _
  hrow := fun x hx => by cases hx
theorem z_start (r c : Int) : tame (startedD r c) = true ∧ (startedD r c).depth ≤ 60 := by
  unfold startedD
  split
  · split
    · have := (fine_start (by assumption) (by assumption)).tame
      exact ⟨this.1, this.2.1⟩
    · exact ⟨rfl, by show 0 ≤ 60; decide⟩
  · exact ⟨rfl, by show 0 ≤ 60; decide⟩
theorem fine_screen (dr : List Int) : ∃ R C, Fine (m_screen dr 6) R C := by
  have b1 := s_rows_b dr 6
  have b2 := s_cols_b dr 6
  have b3 := s_top_b dr 6
  have b4 := s_bot_b dr 6
  have b5 := s_many_b dr 6
  have q1 := mix_nn dr 17 (m := s_rows dr 6) (by omega)
  have q2 := mix_nn dr 18 (m := s_cols dr 6 + 1) (by omega)
  have q3 := mix_nn dr 21 (m := 16) (by decide)
  have q4 := mix_nn dr 14 (m := s_rows dr 6) (by omega)
  have q5 := mix_nn dr 15 (m := s_cols dr 6 + 1) (by omega)
  have q6 := mix_nn dr 16 (m := 16) (by decide)
  refine ⟨(s_rows dr 6).toNat, (s_cols dr 6).toNat, ?_⟩
  exact {
    r1 := by omega
    r2 := by omega
    c1 := by omega
    c2 := by omega
    rows := by show (m_cells dr 26 (s_rows dr 6) (s_cols dr 6)).length = _; unfold m_cells; rw [List.length_map, List.length_range]
    row := fun x hx => by
      obtain ⟨i, hi, rfl⟩ := List.mem_map.mp (show x ∈ (List.range (s_rows dr 6).toNat).map fun r => m_row dr 26 (s_cols dr 6) r (s_cols dr 6).toNat from hx)
      unfold m_row
      refine ⟨by rw [List.length_map, List.length_range], fun c hc => ?_⟩
      obtain ⟨j, hj, rfl⟩ := List.mem_map.mp hc
      exact fine_cellOf _
    cur := ⟨q1.1, by show m_mix dr 17 (s_rows dr 6) < _; omega, q2.1, by show m_mix dr 18 (s_cols dr 6 + 1) ≤ _; omega⟩
    pen := ⟨q3.1, by show m_mix dr 21 16 ≤ 15; omega⟩
    band := ⟨by show 0 ≤ s_top dr 6; omega, by show s_top dr 6 ≤ s_bot dr 6; omega, by show s_bot dr 6 < _; omega⟩
    sav := ⟨q4.1, by show m_mix dr 14 (s_rows dr 6) < _; omega, q5.1, by show m_mix dr 15 (s_cols dr 6 + 1) ≤ _; omega⟩
    spen := ⟨q6.1, by show m_mix dr 16 16 ≤ 15; omega⟩
    many := by show (m_hist (s_many dr 6) (s_cols dr 6)).length ≤ 50; unfold m_hist; rw [List.length_map, List.length_range]; omega
    hrow := fun x hx => by
      obtain ⟨i, hi, rfl⟩ := List.mem_map.mp (show x ∈ m_hist (s_many dr 6) (s_cols dr 6) from hx)
      refine ⟨by rw [List.length_map, List.length_range], fun c hc => ?_⟩
      obtain ⟨j, hj, rfl⟩ := List.mem_map.mp hc
      have hi' := List.mem_range.mp hi
      have := fine_and i (by omega)
      exact fine_char this.1 this.2
  }

/-! the spoilt screen -/
def okish (r : List Cell) : Prop := r.length ≤ 300 ∧ ∀ c ∈ r, c.1.length ≤ 10
theorem okish_small {rs : List (List Cell)} (hn : rs.length ≤ 300) (h : ∀ r ∈ rs, okish r) : smallRows rs :=
  ⟨by omega, fun r hr => ⟨by have := (h r hr).1; omega, fun c hc => Nat.le_trans ((h r hr).2 c hc) (by decide)⟩⟩
theorem okish_fine {r : List Cell} {C : Nat} (hC : C ≤ 40) (h : r.length = C ∧ ∀ c ∈ r, fine c) : okish r := ⟨by omega, fun c hc => Nat.le_trans (fine_len (h.2 c hc)) (by decide)⟩
theorem okish_app {r q : List Cell} (h : r.length ≤ 100) (h2 : q.length ≤ 100) (h3 : ∀ c ∈ r ++ q, c.1.length ≤ 10) : okish (r ++ q) := ⟨by rw [List.length_append]; omega, h3⟩
theorem odd_len : oddCells.all (fun c => decide (c.1.length ≤ 10)) = true := by decide +kernel
theorem odd_bad : oddCells.all (fun c => !okCell c) = true := by decide +kernel
theorem odd_in (k : Int) : oddCells.getD (k % 5).toNat ("", 0) ∈ oddCells := getD_mem (by show _ < 5; omega)
theorem all_bad {rs : List (List Cell)} {r : List Cell} {n : Int} (hr : r ∈ rs) (h : okRow n r = false) : rs.all (okRow n) = false := by
  cases e : rs.all (okRow n) with
  | false => rfl
  | true => rw [List.all_eq_true.mp e r hr] at h; cases h
theorem ok_cells_bad {s : Scr} (h : s.cells.all (okRow (s.cells.getD 0 []).length) = false) : okScr s = false := by
  unfold okScr; rw [h]; simp
theorem ok_hist_bad {s : Scr} (h : s.hist.all (okRow (s.cells.getD 0 []).length) = false) : okScr s = false := by
  unfold okScr; rw [h]; simp
theorem ok_size_bad {s : Scr} (h : okSize s.cells = false) : okScr s = false := by
  unfold okScr; rw [h]; rfl
theorem ok_many_bad {s : Scr} (h : 50 < s.hist.length) : okScr s = false := by
  have : decide ((s.hist.length : Int) ≤ 50) = false := decide_eq_false (by omega)
  unfold okScr; rw [this]; simp
theorem ok_cur_bad {s : Scr} (h : okCur s.cr s.cc s.cells.length (s.cells.getD 0 []).length = false) : okScr s = false := by
  unfold okScr; rw [h]; simp
theorem ok_pen_bad {s : Scr} (h : isNum (.int s.pen) 0 15 = false) : okScr s = false := by
  unfold okScr; rw [h]; simp
theorem ok_band_bad {s : Scr} (h : okBand s.top s.bot s.cells.length = false) : okScr s = false := by
  unfold okScr; rw [h]; simp
theorem ok_sav_bad {s : Scr} (h : okCur s.sr s.sc s.cells.length (s.cells.getD 0 []).length = false) : okScr s = false := by
  unfold okScr; rw [h]; simp
theorem ok_spen_bad {s : Scr} (h : isNum (.int s.sp) 0 15 = false) : okScr s = false := by
  unfold okScr; rw [h]; simp
theorem four (n : Int) : n % 4 = 0 ∨ n % 4 = 1 ∨ n % 4 = 2 ∨ n % 4 = 3 := by omega
theorem five (n : Int) : n % 5 = 0 ∨ n % 5 = 1 ∨ n % 5 = 2 ∨ n % 5 = 3 ∨ n % 5 = 4 := by omega
theorem two (n : Int) : n % 2 = 0 ∨ n % 2 = 1 := by omega
theorem row_long {r : List Cell} {n m : Nat} (h : r.length = m) (hn : m ≠ n) : okRow n r = false := by
  unfold okRow
  rw [decide_eq_false (by omega), Bool.false_and]
theorem get0_app {α : Type} {xs ys : List α} {d : α} (h : xs ≠ []) : (xs ++ ys).getD 0 d = xs.getD 0 d := by
  cases xs with
  | nil => exact (h rfl).elim
  | cons x xs => rfl
theorem sp_bad {s : Scr} {R C : Nat} (h : Fine s R C) {w c : Int} (hw : 0 ≤ w ∧ w < 12) (hc : 0 ≤ c ∧ c < 60000) :
    okScr (m_sp w c s R C) = false ∧ (m_sp w c s R C).cells ≠ [] ∧ smallRows (m_sp w c s R C).cells ∧ smallRows (m_sp w c s R C).hist := by
  have e := h.row0
  have er := h.rows
  have e1 := h.r1; have e2 := h.r2; have e3 := h.c1; have e4 := h.c2; have m := h.many
  have hsm := h.small
  have ok1 : ∀ r ∈ s.cells, okish r := fun r hr => okish_fine e4 (h.row r hr)
  have ok2 : ∀ r ∈ s.hist, okish r := fun r hr => okish_fine e4 (h.hrow r hr)
  have m0 : s.cells.getD 0 [] ∈ s.cells := getD_mem (by omega)
  have f0 := h.row _ m0
  have long : ∀ x : Cell, x.1.length ≤ 10 → okish (s.cells.getD 0 [] ++ [x]) := fun x hx => okish_app (by omega) (by simp) fun y hy => by
    rcases List.mem_append.mp hy with z | z
    · exact Nat.le_trans (fine_len (f0.2 y z)) (by decide)
    · rw [List.mem_singleton.mp z]; exact hx
  unfold m_sp
  by_cases q0 : w < 3
  · rw [if_pos q0]
    have hr0 : (c % (R : Int)).toNat < s.cells.length := by
      have := Int.emod_nonneg c (show (R : Int) ≠ 0 by omega)
      have := Int.emod_lt_of_pos c (show (0 : Int) < R by omega)
      omega
    have hoi := odd_in (c / 11)
    have ob : okCell (oddCells.getD (c / 11 % 5).toNat ("", 0)) = false := by simpa using List.all_eq_true.mp odd_bad _ hoi
    have ol : (oddCells.getD (c / 11 % 5).toNat ("", 0)).1.length ≤ 10 := of_decide_eq_true (List.all_eq_true.mp odd_len _ hoi)
    have mr := getD_mem (xs := s.cells) (d := []) hr0
    have fr := h.row _ mr
    have hin : spLine c s.cells (c % R) (c / 7 % C) ∈ spCells c s.cells (c % R) (c / 7 % C) := by
      unfold spCells
      simp
    have bad : (spLine c s.cells (c % R) (c / 7 % C)).all okCell = false := by
      unfold spLine
      rw [List.all_append, List.all_append, List.all_cons, ob]
      simp
    have okL : okish (spLine c s.cells (c % R) (c / 7 % C)) := by
      unfold spLine
      refine ⟨?_, fun y hy => ?_⟩
      · rw [List.length_append, List.length_append, List.length_take, List.length_drop, List.length_singleton, fr.1]
        omega
      · rcases List.mem_append.mp hy with z | z
        · rcases List.mem_append.mp z with z | z
          · exact Nat.le_trans (fine_len (fr.2 y (List.mem_of_mem_take z))) (by decide)
          · rw [List.mem_singleton.mp z]; exact ol
        · exact Nat.le_trans (fine_len (fr.2 y (List.mem_of_mem_drop z))) (by decide)
    refine ⟨ok_cells_bad (all_bad hin (by unfold okRow; rw [bad, Bool.and_false])), fun z => ?_, okish_small ?_ fun r hr => ?_, hsm.2.2⟩
    · rw [show spCells c s.cells (c % R) (c / 7 % C) = [] from z] at hin
      cases hin
    · show (spCells c s.cells (c % R) (c / 7 % C)).length ≤ 300
      unfold spCells
      rw [List.length_append, List.length_append, List.length_take, List.length_drop, List.length_singleton]
      omega
    · have hr : r ∈ s.cells.take (c % (R : Int)).toNat ++ [spLine c s.cells (c % R) (c / 7 % C)] ++ s.cells.drop (c % (R : Int) + 1).toNat := hr
      rcases List.mem_append.mp hr with z | z
      · rcases List.mem_append.mp z with z | z
        · exact ok1 r (List.mem_of_mem_take z)
        · rw [List.mem_singleton.mp z]; exact okL
      · exact ok1 r (List.mem_of_mem_drop z)
  rw [if_neg q0]
  by_cases q1 : w = 3
  · rw [if_pos q1]
    refine ⟨ok_cells_bad (all_bad (r := s.cells.getD 0 [] ++ [(("a", 0) : Cell)]) (by simp) ?_), by simp, okish_small ?_ fun r hr => ?_, hsm.2.2⟩
    · rw [get0_app h.ne, e]
      exact row_long (m := C + 1) (by rw [List.length_append, e]; rfl) (by omega)
    · show (s.cells ++ [_]).length ≤ 300
      rw [List.length_append, List.length_singleton]; omega
    · have hr : r ∈ s.cells ++ [s.cells.getD 0 [] ++ [(("a", 0) : Cell)]] := hr
      rcases List.mem_append.mp hr with z | z
      · exact ok1 r z
      · rw [List.mem_singleton.mp z]; exact long _ (by decide +kernel)
  rw [if_neg q1]
  by_cases q2 : w = 4
  · rw [if_pos q2]
    refine ⟨ok_cur_bad ?_, hsm⟩
    show okCur _ _ s.cells.length (s.cells.getD 0 []).length = false
    rw [e, er]
    unfold okCur oddCurs
    rcases four c with z | z | z | z <;> rw [z] <;> simp <;> omega
  rw [if_neg q2]
  by_cases q3 : w = 5
  · rw [if_pos q3]
    refine ⟨ok_pen_bad ?_, hsm⟩
    rcases two c with z | z <;> rw [z] <;> rfl
  rw [if_neg q3]
  by_cases q4 : w = 6
  · rw [if_pos q4]
    refine ⟨ok_band_bad ?_, hsm⟩
    show okBand _ _ s.cells.length = false
    rw [er]
    unfold okBand oddBands
    rcases four c with z | z | z | z <;> rw [z] <;> simp
  rw [if_neg q4]
  by_cases q5 : w = 7
  · rw [if_pos q5]
    rcases five c with z | z | z | z | z <;> rw [z]
    · refine ⟨ok_sav_bad ?_, hsm⟩
      show okCur (R : Int) 0 s.cells.length (s.cells.getD 0 []).length = false
      rw [e, er]; unfold okCur; simp
    · refine ⟨ok_sav_bad ?_, hsm⟩
      show okCur 0 ((C : Int) + 1) s.cells.length (s.cells.getD 0 []).length = false
      rw [e, er]; unfold okCur; simp; omega
    · exact ⟨ok_spen_bad rfl, hsm⟩
    · refine ⟨ok_sav_bad ?_, hsm⟩
      show okCur (-1) 0 s.cells.length (s.cells.getD 0 []).length = false
      unfold okCur; simp
    · exact ⟨ok_spen_bad rfl, hsm⟩
  rw [if_neg q5]
  by_cases q6 : w = 8
  · rw [if_pos q6]
    have hl : ((List.range (51 + c % 3).toNat).map fun _ => s.cells.getD 0 []).length = (51 + c % 3).toNat := by rw [List.length_map, List.length_range]
    refine ⟨ok_many_bad ?_, hsm.1, hsm.2.1, okish_small ?_ fun r hr => ?_⟩
    · show 50 < ((List.range (51 + c % 3).toNat).map fun _ => s.cells.getD 0 []).length
      rw [hl]; omega
    · show ((List.range (51 + c % 3).toNat).map fun _ => s.cells.getD 0 []).length ≤ 300
      rw [hl]; omega
    · obtain ⟨i, _, rfl⟩ := List.mem_map.mp (show r ∈ (List.range (51 + c % 3).toNat).map fun _ => s.cells.getD 0 [] from hr)
      exact ok1 _ m0
  rw [if_neg q6]
  by_cases q7 : w = 9
  · rw [if_pos q7]
    refine ⟨ok_hist_bad (all_bad (r := s.cells.getD 0 [] ++ [(("b", 1) : Cell)]) (by simp) ?_), hsm.1, hsm.2.1, okish_small ?_ fun r hr => ?_⟩
    · show okRow (s.cells.getD 0 []).length _ = false
      rw [e]
      exact row_long (m := C + 1) (by rw [List.length_append, e]; rfl) (by omega)
    · show (s.hist.take 49 ++ [_]).length ≤ 300
      rw [List.length_append, List.length_take, List.length_singleton]; omega
    · have hr : r ∈ s.hist.take 49 ++ [s.cells.getD 0 [] ++ [(("b", 1) : Cell)]] := hr
      rcases List.mem_append.mp hr with z | z
      · exact ok2 r (List.mem_of_mem_take z)
      · rw [List.mem_singleton.mp z]; exact long _ (by decide +kernel)
  rw [if_neg q7]
  by_cases q8 : w = 10
  · rw [if_pos q8]
    refine ⟨ok_size_bad ?_, ?_, okish_small ?_ fun r hr => ?_, okish_small (by simp) fun r hr => by cases hr⟩
    · show okSize ((List.range 13).map fun _ => s.cells.getD 0 []) = false
      unfold okSize
      rw [List.length_map, List.length_range]
      rfl
    · show ((List.range 13).map fun _ => s.cells.getD 0 []) ≠ []
      exact fun z => by have := congrArg List.length z; rw [List.length_map, List.length_range] at this; cases this
    · show ((List.range 13).map fun _ => s.cells.getD 0 []).length ≤ 300
      rw [List.length_map, List.length_range]; decide
    · obtain ⟨i, _, rfl⟩ := List.mem_map.mp (show r ∈ (List.range 13).map fun _ => s.cells.getD 0 [] from hr)
      exact ok1 _ m0
  rw [if_neg q8]
  refine ⟨ok_size_bad ?_, by simp, okish_small (by simp) fun r hr => ?_, okish_small (by simp) fun r hr => by cases hr⟩
  · show okSize [(List.range 41).map fun _ => (("a", 0) : Cell)] = false
    have : (([(List.range 41).map fun _ => (("a", 0) : Cell)] : List (List Cell)).getD 0 []).length = 41 := by
      show ((List.range 41).map fun _ => (("a", 0) : Cell)).length = 41
      rw [List.length_map, List.length_range]
    unfold okSize
    rw [this]
    rfl
  · rw [List.mem_singleton.mp hr]
    refine ⟨by rw [List.length_map, List.length_range]; decide, fun y hy => ?_⟩
    obtain ⟨i, _, rfl⟩ := List.mem_map.mp hy
    show ("a" : Str).length ≤ 10
    decide +kernel

theorem z_ok (dr : List Int) : okScr (m_screen dr 6) = true := by
  obtain ⟨R, C, h⟩ := fine_screen dr
  exact h.ok
theorem z_even (dr : List Int) : evenScr (m_screen dr 6) := by
  obtain ⟨R, C, h⟩ := fine_screen dr
  exact h.even
theorem z_row (dr : List Int) : ∃ x row rows, (m_screen dr 6).cells.map (·.map pC) = (x :: row) :: rows ∧ rows.length ≤ 50000 := by
  obtain ⟨R, C, h⟩ := fine_screen dr
  generalize m_screen dr 6 = s at h
  have e1 := h.r1; have e2 := h.r2; have e3 := h.c1; have er := h.rows; have f := h.row
  match hs : s.cells with
  | [] => rw [hs] at er; simp at er; omega
  | [] :: _ => rw [hs] at f; have := (f [] List.mem_cons_self).1; simp at this; omega
  | (x :: row) :: rows => exact ⟨_, _, _, rfl, by rw [hs] at er; rw [List.length_map]; simp at er; omega⟩
theorem z_sp (dr : List Int) : okScr (m_spoilt dr (m_screen dr 6)) = false ∧ (m_spoilt dr (m_screen dr 6)).cells ≠ [] ∧ smallRows (m_spoilt dr (m_screen dr 6)).cells ∧ smallRows (m_spoilt dr (m_screen dr 6)).hist := by
  obtain ⟨R, C, h⟩ := fine_screen dr
  have := sp_bad h (at_b dr 0 (m := 12) (by decide)) (at_b dr 1 (m := 60000) (by decide))
  unfold m_spoilt
  rw [h.rows, h.row0]
  exact this
theorem z_bad (dr : List Int) : okScr (m_spoilt dr (m_screen dr 6)) = false := (z_sp dr).1
theorem z_badC (dr : List Int) : (m_spoilt dr (m_screen dr 6)).cells ≠ [] ∧ smallRows (m_spoilt dr (m_screen dr 6)).cells ∧ smallRows (m_spoilt dr (m_screen dr 6)).hist := (z_sp dr).2
theorem z_small (dr : List Int) : (m_screen dr 6).cells ≠ [] ∧ smallRows (m_screen dr 6).cells ∧ smallRows (m_screen dr 6).hist := by
  obtain ⟨R, C, h⟩ := fine_screen dr
  exact h.small
theorem z_chars (dr : List Int) : ∀ r ∈ (m_screen dr 6).cells, r.length ≤ 100 ∧ ∀ c ∈ r, c.1.length ≤ 1 := by
  obtain ⟨R, C, h⟩ := fine_screen dr
  exact fun r hr => ⟨by have := (h.row r hr).1; have := h.c2; omega, fun c hc => fine_len ((h.row r hr).2 c hc)⟩
theorem z_tame (dr : List Int) : tame (pS (m_screen dr 6)) = true ∧ (pS (m_screen dr 6)).depth ≤ 60 ∧ wt (pS (m_screen dr 6)) ≤ 16000000 := by
  obtain ⟨R, C, h⟩ := fine_screen dr
  exact ⟨h.tame.1, h.tame.2.1, h.tame.2.2.1⟩
theorem z_tame3 (dr : List Int) : tame (shownD (m_screen dr 6)) = true ∧ (shownD (m_screen dr 6)).depth ≤ 60 := by
  obtain ⟨R, C, h⟩ := fine_screen dr
  exact ⟨h.tame.2.2.2.1, h.tame.2.2.2.2⟩


theorem sc_law : FnScope ["script", "draws", "screen", "kept", "rows", "columns", "due", "cells", "told", "text", "line", "c", "r", "cell"] ["script"] (defScope s_law) := ⟨rfl, rfl, rfl, by decide +kernel, rfl, by decide +kernel, by decide +kernel⟩
def P_look2 : List PyData → PyData → Prop := fun ds d => ∃ a rows d2 d3, ds = [a] ∧ P_look a rows d2 d3 ∧ d = .tuple [.list (rows.map .list), d2, d3]
theorem at_law {Pg : Program} {w : World} {K : PySem.W.Frag} {mg : Str → Option Value} {g : Heap} (T : Txt K mg) (C_law_draws : CalS Pg w K mg g "_law_draws" 1 (spQ K P_law_draws)) (C_look : CalS Pg w K mg g "look" 2 (spTri K P_look)) (C_law_at : Cal Pg w K mg g "_law_at" 1 3 P_law_at) (C_law_screen : Cal Pg w K mg g "_law_screen" 3 2 P_law_screen) (C_law_spoilt : Cal Pg w K mg g "_law_spoilt" 2 2 P_law_spoilt) (C_law_started : Cal Pg w K mg g "_law_started" 4 2 P_law_started) (C_is_screen : Cal Pg w K mg g "is_screen" 5 1 P_is_screen) (C_shown_text : Cal Pg w K mg g "shown_text" 2 1 P_shown_text) {f : Addr} {fd : FuncData} (F : FnP K "law" s_law f fd) : AtTop Pg w K mg g f fd "script" (spTop K) := by
  refine atTop_of (k := 6) F sc_law ⟨rfl, by decide, by decide⟩ (fun cdv s H vs Q hr h => ?_)
  have hu := hr.units
  have C_look2 : Cal Pg w K mg g "look" 2 1 P_look2 := C_look.imp fun vs H Q E h => tri_data h
  refine ⟨_, PSs.nox (pss_cons (ps_set (i := 1) sc_law.nd rfl (Or.inl rfl) (pe_callSp C_law_draws (hr.mono (by decide)) (by rfl) (pa_cons (pv 0) pa_nil)))
      (pss_cons (ps_set (i := 2) sc_law.nd rfl (Or.inl rfl) (pe_callC C_law_screen (hr.mono (by decide)) (by rfl) (pa_cons (pv 1) (pa_cons pe_int pa_nil))))
      (pss_cons (ps_set (i := 3) sc_law.nd rfl (Or.inl rfl) (pe_callB (call_reprD rfl hu) (by rfl) T.f_repr PyProof.Rows.boot_repr (pa_cons (pv 2) pa_nil)))
      (pss_cons (ps_if (pw_or (pt_cmpR op_isnot_bl (pe_callC C_is_screen (hr.mono (by decide)) (by rfl) (pa_cons (pv 2) pa_nil)) pe_bl (nomark _)) (pw_or (pt_cmpR op_isnot_bl (pe_callC C_is_screen (hr.mono (by decide)) (by rfl) (pa_cons (pe_callC C_law_spoilt (hr.mono (by decide)) (by rfl) (pa_cons (pv 1) (pa_cons (pv 2) pa_nil))) pa_nil)) pe_bl (nomark _)) (pw_or1 (pt_cmpR op_ne (pe_callB (call_reprD rfl hu) (by rfl) T.f_repr PyProof.Rows.boot_repr (pa_cons (pv 2) pa_nil)) (pv 3) (nomark _))))).pt (pss_one (ps_ret pe_bl)) pss_nil)
      (pss_cons (ps_set (i := 4) sc_law.nd rfl (Or.inl rfl) (pe_op op_sub (pe_callC C_law_at (hr.mono (by decide)) (by rfl) (pa_cons (pv 1) (pa_cons pe_int (pa_cons pe_int pa_nil)))) pe_int))
      (pss_cons (ps_set (i := 5) sc_law.nd rfl (Or.inr rfl) (pe_op op_sub (pe_callC C_law_at (hr.mono (by decide)) (by rfl) (pa_cons (pv 1) (pa_cons pe_int (pa_cons pe_int pa_nil)))) pe_int))
      (pss_cons (ps_set (i := 6) sc_law.nd rfl (Or.inl rfl) pe_int)
      (pss_cons (ps_if (pt_chain op_le op_le pe_int (pv 4) pe_int) (pss_cons (ps_set (i := 6) sc_law.nd rfl (Or.inl rfl) pe_int)
      (pss_one (ps_if (pt_chain op_le op_le pe_int (pv 5) pe_int) (pss_cons (ps_setLc (own := [("r", 12)]) (g := gName 12) (tt := tYes) (te := (tLc (iRng1 (tCons (tVar 5) tNil)) (gName 11) tYes (tTup (tCons (tC _) (tCons (tC (.int 0)) tNil))) [11])) (i := 7) rfl sc_law.nd rfl rfl (sw_true rfl rfl rfl (by decide +kernel)) (pi_range1 rfl T.f_range (pa_cons (pv 4) pa_nil)) (blkOk_by (N := ["script", "draws", "screen", "kept", "rows", "columns", "due", "cells", "told", "text", "line", "c", "r", "cell"]) (sc := (defScope s_law)) (by decide +kernel)) (fun _ _ _ _ _ => (pg_name (i := 12) sc_law.nd rfl (Or.inl rfl))) (fun _ _ _ _ _ => pts_nil) (fun _ _ _ _ _ => (pe_lc (own := [("c", 11)]) (g := gName 11) (tt := tYes) (te := (tTup (tCons (tC _) (tCons (tC (.int 0)) tNil)))) rfl sc_law.nd (pi_range1 rfl T.f_range (pa_cons (pv 5) pa_nil)) (blkOk_by (by kernel_rfl)) (fun _ _ _ _ _ => (pg_name (i := 11) sc_law.nd rfl (Or.inl rfl))) (fun _ _ _ _ _ => pts_nil) (fun _ _ _ _ _ => (pe_tup (pa_cons pe_str (pa_cons pe_int pa_nil)))))))
      (pss_one (ps_set (i := 6) sc_law.nd rfl (Or.inl rfl) (pe_tup (pa_cons (pv 7) (pa_cons (pe_tup (pa_cons pe_int (pa_cons pe_int pa_nil))) (pa_cons pe_int (pa_cons (pe_tup (pa_cons pe_int (pa_cons (pe_op op_sub (pv 4) pe_int) pa_nil))) (pa_cons pe_bl (pa_cons (pe_tup (pa_cons pe_int (pa_cons pe_int (pa_cons pe_int pa_nil)))) (pa_cons (pe_lst pa_nil) pa_nil))))))))))) pss_nil))) pss_nil)
      (pss_cons (ps_if (pt_cmpR (op_neD hu) (pe_callC C_law_started (hr.mono (by decide)) (by rfl) (pa_cons (pv 4) (pa_cons (pv 5) pa_nil))) (pv 6) (nomark _)) (pss_one (ps_ret pe_bl)) pss_nil)
      (pss_cons (ps_set (i := 8) sc_law.nd rfl (Or.inl rfl) (pe_callSp C_look (hr.mono (by decide)) (by rfl) (pa_cons (pv 2) pa_nil)))
      (pss_cons (ps_if (pw_or (pt_not (pt_val (pe_callB call_isi (by rfl) T.f_isinstance PyProof.Rows.boot_isinstance (pa_cons (pv 8) (pa_cons (pe_bltn (v := .ty "tuple") (u := .type "tuple") (by rfl) T.f_tuple (by decide +kernel) rfl) pa_nil))))) (pw_or1 (pt_cmpR (op_neD hu) (pv 8) (pe_slice sl_tup (pv 2) po_none (po_some pe_int)) (nomark _)))).pt (pss_one (ps_ret pe_bl)) pss_nil)
      (pss_cons (ps_asg pe_non (pg_sub (pe_ix ix_list (pe_ix ix_tup (pv 8) pe_int (fun _ _ => rfl)) pe_int (fun _ _ => rfl)) pe_int set_list))
      (pss_cons (ps_expr (pe_bm PySem.F.plainAttrs_list PySem.F.slot_list_append PySem.F.type_list_append mt_append (pe_ix ix_tup (pv 8) pe_int (fun _ _ => rfl)) (pa_cons pe_int pa_nil)))
      (pss_cons (ps_set (i := 9) sc_law.nd rfl (Or.inl rfl) pe_str)
      (pss_cons (ps_for PassesOwn.never rfl (pi_list (pe_ix ix_tup (pv 2) pe_int (fun _ _ => rfl))) (pg_name (i := 10) sc_law.nd rfl (Or.inl rfl))
        (pss_one (ps_set (i := 9) sc_law.nd rfl (Or.inl rfl) (pe_op op_add_str (pe_op op_add_str (pv 9) (pe_bm PySem.F.plainAttrs_str PySem.F.slot_str_join PySem.F.type_str_join mt_join pe_str (pa_cons (pe_lc (own := [("cell", 13)]) (g := gName 13) (tt := tYes) (te := (tOp (rIxT K) (tVar 13) (tC (.int 0)))) rfl sc_law.nd (pi_list (pv 10)) (blkOk_by (N := ["script", "draws", "screen", "kept", "rows", "columns", "due", "cells", "told", "text", "line", "c", "r", "cell"]) (sc := (defScope s_law)) (by decide +kernel)) (fun _ _ _ _ _ => (pg_name (i := 13) sc_law.nd rfl (Or.inl rfl))) (fun _ _ _ _ _ => pts_nil) (fun _ _ _ _ _ => (pe_ix ix_tup (pv 13) pe_int (fun _ _ => rfl)))) pa_nil))) pe_str))))
      (pss_one (ps_ret (pe_and (pe_cmpR op_eq (pe_callC C_shown_text (hr.mono (by decide)) (by rfl) (pa_cons (pv 2) pa_nil)) (pv 9) (nomark _)) (pe_and (pe_cmpR (op_eqD hu) (pe_callC C_look2 (hr.mono (by decide)) (by rfl) (pa_cons (pv 2) pa_nil)) (pe_slice sl_tup (pv 2) po_none (po_some pe_int)) (nomark _)) (pe_one (pe_cmpR op_eq (pe_callB (call_reprD rfl hu) (by rfl) T.f_repr PyProof.Rows.boot_repr (pa_cons (pv 2) pa_nil)) (pv 3) (nomark _)))))))))))))))))))))), body_L (N := ["script", "draws", "screen", "kept", "rows", "columns", "due", "cells", "told", "text", "line", "c", "r", "cell"]) (by decide) h fun ns hn => ?_⟩
  obtain ⟨dr, hdr⟩ : ∃ dr, dr = m_draws ns := ⟨_, rfl⟩
  refine sd_setq (d := pI dr) (xd_callQ rfl ⟨hn, by rw [hdr]⟩) ?_
  show SD K _ _ [.sq (ns.map V.int), .dt (pI dr), .no, .no, .no, .no, .no, .no, .no, .no, .no, .no, .no, .no] _ _

  have hs_ok := z_ok dr
  have hs_even := z_even dr
  have hs_row := z_row dr
  have hs_bad := z_bad dr
  have hs_badC := z_badC dr
  have hs_small := z_small dr
  have hs_chars := z_chars dr
  have hs_tame := z_tame dr
  have hs_tame3 := z_tame3 dr
  refine sd_setq (d := pS (m_screen dr 6)) (xd_call (xa_cons (xd_var rfl) (xa_cons xd_int xa_nil)) rfl ⟨dr, 6, rfl, rfl⟩) ?_
  generalize m_screen dr 6 = s at hs_ok hs_even hs_row hs_bad hs_badC hs_small hs_chars hs_tame hs_tame3 ⊢
  show SD K _ _ [.sq (ns.map V.int), .dt (pI dr), .dt (pS s), .no, .no, .no, .no, .no, .no, .no, .no, .no, .no, .no] _ _

  refine sd_setq (d := .str (pS s).shown) (xd_repr (xd_var rfl) (.inr rfl) hs_tame.1 hs_tame.2.1 hs_tame.2.2) ?_
  show SD K _ _ [.sq (ns.map V.int), .dt (pI dr), .dt (pS s), .dt (.str (pS s).shown), .no, .no, .no, .no, .no, .no, .no, .no, .no, .no] _ _

  refine sd_ifr (b := false) (xt_or (a := false) (b := false) (xt_test ((xd_isnB (xd_call (d := .bool true) (xa_cons (xd_var rfl) xa_nil) rfl ⟨s, rfl, hs_small.1, hs_small.2.1, hs_small.2.2, by rw [hs_ok]⟩) xd_bl).is rfl)) fun _ =>
    xt_or (a := false) (b := false) (xt_test ((xd_isnB (xd_call (d := .bool false) (xa_cons (xd_call (d := pS (m_spoilt dr s)) (xa_cons (xd_var rfl) (xa_cons (xd_var rfl) xa_nil)) rfl ⟨dr, s, rfl, hs_even, rfl⟩) xa_nil) rfl ⟨_, rfl, hs_badC.1, hs_badC.2.1, hs_badC.2.2, by rw [hs_bad]⟩) xd_bl).is rfl)) fun _ =>
    xt_test ((xd_neS (xd_repr (xd_var rfl) (.inr rfl) hs_tame.1 hs_tame.2.1 hs_tame.2.2) (xd_var rfl)).is (by simp))) (fun h => nomatch h) (fun _ => ?_)
  obtain ⟨R, hR⟩ : ∃ R, R = m_at dr 2 15 - 1 := ⟨_, rfl⟩
  obtain ⟨C, hC⟩ : ∃ C, C = m_at dr 3 44 - 1 := ⟨_, rfl⟩
  refine sd_setq (d := .int R) (by rw [hR]; exact xd_I0 (x_at (xd_var rfl) xd_int xd_int (by decide) (by decide)) xd_int) ?_
  show SD K _ _ [.sq (ns.map V.int), .dt (pI dr), .dt (pS s), .dt (.str (pS s).shown), .dt (.int R), .no, .no, .no, .no, .no, .no, .no, .no, .no] _ _

  refine sd_setq (d := .int C) (by rw [hC]; exact xd_I0 (x_at (xd_var rfl) xd_int xd_int (by decide) (by decide)) xd_int) ?_
  show SD K _ _ [.sq (ns.map V.int), .dt (pI dr), .dt (pS s), .dt (.str (pS s).shown), .dt (.int R), .dt (.int C), .no, .no, .no, .no, .no, .no, .no, .no] _ _

  refine sd_setq (d := .int 0) xd_int ?_
  show SD K _ _ [.sq (ns.map V.int), .dt (pI dr), .dt (pS s), .dt (.str (pS s).shown), .dt (.int R), .dt (.int C), .dt (.int 0), .no, .no, .no, .no, .no, .no, .no] _ _

  refine sd_seq (M := fun q => ∃ z, q = [.sq (ns.map V.int), .dt (pI dr), .dt (pS s), .dt (.str (pS s).shown), .dt (.int R), .dt (.int C), .dt (startedD R C), z, .no, .no, .no, .no, .no, .no])
    (sd_if (xt_test (xd_chain xd_int (xd_var rfl) fun hc => xd_int)) (fun hb => ?_) (fun hb => ?_)) ?_
  · have h1 : 1 ≤ R ∧ R ≤ 12 := by simpa using hb
    refine sd_setq (d := .int 1) xd_int ?_
    show SD K _ _ [.sq (ns.map V.int), .dt (pI dr), .dt (pS s), .dt (.str (pS s).shown), .dt (.int R), .dt (.int C), .dt (.int 1), .no, .no, .no, .no, .no, .no, .no] _ _

    refine sd_if (xt_test (xd_chain xd_int (xd_var rfl) fun hc => xd_int)) (fun hb => ?_) (fun hb => ?_)
    · have h2 : 1 ≤ C ∧ C ≤ 40 := by simpa using hb
      refine sd_setOq (xo_lcR (g := fun _ => List.replicate C.toNat ((" ", 0) : Cell)) (h := pR) (xa_cons (xd_var rfl) xa_nil) (by omega) fun i hi => ?_) <| sd_frz 7 rfl ?_
      · refine ((xo_lcR (g := fun _ => ((" ", 0) : Cell)) (h := pC) (xa_cons (xd_var rfl) xa_nil) (by omega) fun i hi => xd_tup (xa_cons xd_str (xa_cons xd_int xa_nil)) (by simp)).is ?_).xd
        rw [ex_rep]
      refine sd_asg (d := pS (startScr R C)) (xd_tup (xa_cons ((xd_var rfl).is (by rw [ex_rep]; rfl)) (xa_cons (xd_tup (xa_cons xd_int (xa_cons xd_int xa_nil)) (by simp)) (xa_cons xd_int (xa_cons (xd_tup (xa_cons xd_int (xa_cons (xd_I0 (xd_var rfl) xd_int) xa_nil)) (by simp)) (xa_cons xd_bl (xa_cons (xd_tup (xa_cons xd_int (xa_cons xd_int (xa_cons xd_int xa_nil))) (by simp)) (xa_cons (xo_lst xa_nil (by simp)).xd xa_nil))))))) (by simp)) (xg_name 6) ⟨.dt (.list (((List.range R.toNat).map fun _ => List.replicate C.toNat ((" ", 0) : Cell)).map pR)), ?_⟩
      unfold startedD; rw [if_pos h1, if_pos h2]; rfl
    · have h2 : ¬ (1 ≤ C ∧ C ≤ 40) := by simpa using hb
      refine sd_next ⟨.no, ?_⟩
      unfold startedD; rw [if_pos h1, if_neg h2]
  · have h1 : ¬ (1 ≤ R ∧ R ≤ 12) := by simpa using hb
    refine sd_next ⟨.no, ?_⟩
    unfold startedD; rw [if_neg h1]
  rintro _ ⟨z, rfl⟩
  have hst := z_start R C
  have hsh := shaped_of hst.1 hst.2
  refine sd_ifr (b := false) (xt_test ((xd_neD (xd_call (d := startedD R C) (xa_cons (xd_var rfl) (xa_cons (xd_var rfl) xa_nil)) rfl ⟨R, C, rfl, rfl⟩) (xd_var rfl) hsh hsh).is (by rw [eqv_same hst.1]; rfl))) (fun h => nomatch h) (fun _ => ?_)
  obtain ⟨x, row, rows, hrow, hrl⟩ := hs_row
  have hD : shownD s = .tuple [.list (((x :: row) :: rows).map .list), .tuple [.int s.cr, .int s.cc], .int s.pen] := by
    unfold shownD
    rw [← hrow, List.map_map]
    rfl
  have hlen : s.cells.length ≤ 50000 := by
    have := congrArg List.length hrow
    rw [List.length_map, List.length_cons] at this
    have := hs_even.2.1
    omega
  have hsh3 := shaped_of hs_tame3.1 hs_tame3.2
  have cut3 : cutD [pRs s.cells, .tuple [.int s.cr, .int s.cc], .int s.pen, .tuple [.int s.top, .int s.bot], .bool s.wraps, .tuple [.int s.sr, .int s.sc, .int s.sp], pRs s.hist] none (some 3) = [pRs s.cells, .tuple [.int s.cr, .int s.cc], .int s.pen] := rfl
  refine sd_told (d := pS s) (x := x) (row := row) (rows := rows) (d2 := .tuple [.int s.cr, .int s.cc]) (d3 := .int s.pen) (by simp) (xd_var rfl) ⟨s, rfl, hlen, hrow.symm, rfl, rfl⟩ hrl ?_ ?_
  · rw [← hD]
    exact xt_or (a := false) (b := false) ((xt_not (xt_B (xd_istuple (d := shownD s) (xd_var rfl)))).is rfl) fun _ =>
      xt_test ((xd_neD (d := shownD s) (e := shownD s) (xd_var rfl) ((xd_slT (xd_var rfl) xp_none (xp_some xd_int) (by simp [HT.sIx])).is (congrArg PyData.tuple cut3)) hsh3 hsh3).is (by rw [eqv_same hs_tame3.1]; rfl))
  show SD K _ _ [.sq (ns.map V.int), .dt (pI dr), .dt (pS s), .dt (.str (pS s).shown), .dt (.int R), .dt (.int C), .dt (startedD R C), z, .no, .no, .no, .no, .no, .no] _ _
  refine sd_setq (d := .str (textTo (s.cells.take 0))) (xd_str) ?_
  have hnl : ("\n" : Str).length = 1 := by decide +kernel
  have hl : ∀ r ∈ s.cells, (rowText r).length ≤ 100 := fun r hr => by
    have := catAll_len 1 (r.map (·.1)) (by intro y hy; obtain ⟨c, hc, rfl⟩ := List.mem_map.mp hy; exact (hs_chars r hr).2 c hc)
    rw [List.length_map] at this
    have := (hs_chars r hr).1
    unfold rowText
    omega
  have htl : ∀ i, (textTo (s.cells.take i)).length ≤ 10100 := fun i => by
    have := catAll_len 101 ((s.cells.take i).map fun r => rowText r ++ "\n") (by
      intro y hy
      obtain ⟨r, hr, rfl⟩ := List.mem_map.mp hy
      have := hl r (List.mem_of_mem_take hr)
      rw [len_app]
      omega)
    rw [List.length_map, List.length_take] at this
    have := hs_even.2.1
    unfold textTo
    omega
  refine sd_forq (fun i q => ∃ z1 z2, q = [.sq (ns.map V.int), .dt (pI dr), .dt (pS s), .dt (.str (pS s).shown), .dt (.int R), .dt (.int C), .dt (startedD R C), z, .no, .dt (.str (textTo (s.cells.take i))), z1, .no, .no, z2])
    (xi_list (xd_ixT (d := pRs s.cells) (xd_var rfl) xd_int rfl)) ⟨.no, .no, rfl⟩ (fun i q hi hI => ?_) (fun q hI => ?_)
  · obtain ⟨z1, z2, rfl⟩ := hI
    have hi' : i < s.cells.length := by simpa using hi
    have hm : s.cells.getD i [] ∈ s.cells := getD_mem hi'
    have ht : s.cells.take (i + 1) = s.cells.take i ++ [s.cells.getD i []] := by
      rw [List.take_succ_eq_append_getElem hi', List.getD_eq_getElem?_getD, List.getElem?_eq_getElem hi']
      rfl
    have hit : (s.cells.map pR).getD i .none = pR (s.cells.getD i []) := by
      rw [List.getD_eq_getElem?_getD, List.getElem?_map, List.getElem?_eq_getElem hi', List.getD_eq_getElem?_getD, List.getElem?_eq_getElem hi']
      rfl
    refine ⟨_, _, xg_name 10, ?_⟩
    rw [hit]
    show SD K _ _ [.sq (ns.map V.int), .dt (pI dr), .dt (pS s), .dt (.str (pS s).shown), .dt (.int R), .dt (.int C), .dt (startedD R C), z, .no, .dt (.str (textTo (s.cells.take i))), .dt (pR (s.cells.getD i [])), .no, .no, z2] _ _
    have hl1 := hl _ hm
    have ht1 := htl i
    have hc1 := hs_chars _ hm
    refine sd_asg (d := .str (textTo (s.cells.take (i + 1)))) ?_ (xg_name 9) ⟨_, _, rfl⟩
    rw [ht, textTo_snoc]
    refine xd_catS (xd_catS (xd_var rfl) (xd_join0 1 xd_str (xo_lcM (g := fun c : Cell => c.1) (h := PyData.str) ("", 0) (xd_var rfl) (by omega) fun c hc => xd_ixT (xd_var rfl) xd_int rfl).xd ?_ (by rw [List.length_map]; omega)) (by show _ + (rowText _).length ≤ _; omega)) xd_str (by rw [len_app]; show _ + (rowText _).length + _ ≤ _; omega)
    intro y hy
    obtain ⟨c, hc, rfl⟩ := List.mem_map.mp hy
    exact hc1.2 c hc
  · obtain ⟨z1, z2, rfl⟩ := hI
    rw [show s.cells.take (s.cells.map pR).length = s.cells by rw [List.length_map, List.take_length]]
    refine sd_ret ((xd_and (a := true) (b := true) ((xd_eqS (xd_call (d := .str (shownText s)) (xa_cons (xd_var rfl) xa_nil) rfl ⟨s, rfl, by have := hs_even.2.1; omega, fun r hr => ⟨by have := (hs_chars r hr).1; omega, (hs_chars r hr).2⟩, rfl⟩) (xd_var rfl)).is (by unfold shownText textTo; simp)) fun _ =>
      xd_and (a := true) (b := true) ((xd_eqD (d := shownD s) (e := shownD s) (xd_call (xa_cons (xd_var rfl) xa_nil) rfl ⟨pS s, _, _, _, rfl, ⟨s, rfl, hlen, rfl, rfl, rfl⟩, by unfold shownD; rw [List.map_map]; rfl⟩) ((xd_slT (xd_var rfl) xp_none (xp_some xd_int) (by simp [HT.sIx])).is (congrArg PyData.tuple cut3)) hsh3 hsh3).is (by rw [eqv_same hs_tame3.1])) fun _ =>
      ((xd_eqS (xd_repr (xd_var rfl) (.inr rfl) hs_tame.1 hs_tame.2.1 hs_tame.2.2) (xd_var rfl)).is (by simp))).is rfl) rfl

def d0 : He.DefD := ⟨("ScreenError", some "__init__"), "__init__", "ScreenError.__init__", defArgs s_ScreenError_init, defBody s_ScreenError_init, defScope s_ScreenError_init, [], []⟩
def d1 : He.DefD := ⟨("start_screen", none), "start_screen", "start_screen", defArgs s_start_screen, defBody s_start_screen, defScope s_start_screen, [], []⟩
def d2 : He.DefD := ⟨("untested_start", none), "untested_start", "untested_start", defArgs s_untested_start, defBody s_untested_start, defScope s_untested_start, [], []⟩
def d3 : He.DefD := ⟨("blank_cells", none), "blank_cells", "blank_cells", defArgs s_blank_cells, defBody s_blank_cells, defScope s_blank_cells, [], []⟩
def d4 : He.DefD := ⟨("copied_rows", none), "copied_rows", "copied_rows", defArgs s_copied_rows, defBody s_copied_rows, defScope s_copied_rows, [], []⟩
def d5 : He.DefD := ⟨("is_screen", none), "is_screen", "is_screen", defArgs s_is_screen, defBody s_is_screen, defScope s_is_screen, [], []⟩
def d6 : He.DefD := ⟨("is_size", none), "is_size", "is_size", defArgs s_is_size, defBody s_is_size, defScope s_is_size, [], []⟩
def d7 : He.DefD := ⟨("are_rows", none), "are_rows", "are_rows", defArgs s_are_rows, defBody s_are_rows, defScope s_are_rows, [], []⟩
def d8 : He.DefD := ⟨("are_cells", none), "are_cells", "are_cells", defArgs s_are_cells, defBody s_are_cells, defScope s_are_cells, [], []⟩
def d9 : He.DefD := ⟨("is_char", none), "is_char", "is_char", defArgs s_is_char, defBody s_is_char, defScope s_is_char, [], []⟩
def d10 : He.DefD := ⟨("is_pen", none), "is_pen", "is_pen", defArgs s_is_pen, defBody s_is_pen, defScope s_is_pen, [], []⟩
def d11 : He.DefD := ⟨("is_number", none), "is_number", "is_number", defArgs s_is_number, defBody s_is_number, defScope s_is_number, [], []⟩
def d12 : He.DefD := ⟨("is_cursor", none), "is_cursor", "is_cursor", defArgs s_is_cursor, defBody s_is_cursor, defScope s_is_cursor, [], []⟩
def d13 : He.DefD := ⟨("is_band", none), "is_band", "is_band", defArgs s_is_band, defBody s_is_band, defScope s_is_band, [], []⟩
def d14 : He.DefD := ⟨("look", none), "look", "look", defArgs s_look, defBody s_look, defScope s_look, [], []⟩
def d15 : He.DefD := ⟨("shown_text", none), "shown_text", "shown_text", defArgs s_shown_text, defBody s_shown_text, defScope s_shown_text, [], []⟩
def d16 : He.DefD := ⟨("row_text", none), "row_text", "row_text", defArgs s_row_text, defBody s_row_text, defScope s_row_text, [], []⟩
def d17 : He.DefD := ⟨("_law_draws", none), "_law_draws", "_law_draws", defArgs s_law_draws, defBody s_law_draws, defScope s_law_draws, [], []⟩
def d18 : He.DefD := ⟨("_law_at", none), "_law_at", "_law_at", defArgs s_law_at, defBody s_law_at, defScope s_law_at, [], []⟩
def d19 : He.DefD := ⟨("_law_is_integer", none), "_law_is_integer", "_law_is_integer", defArgs s_law_is_integer, defBody s_law_is_integer, defScope s_law_is_integer, [], []⟩
def d20 : He.DefD := ⟨("_law_mix", none), "_law_mix", "_law_mix", defArgs s_law_mix, defBody s_law_mix, defScope s_law_mix, [], []⟩
def d21 : He.DefD := ⟨("_law_char", none), "_law_char", "_law_char", defArgs s_law_char, defBody s_law_char, defScope s_law_char, [], []⟩
def d22 : He.DefD := ⟨("_law_cells", none), "_law_cells", "_law_cells", defArgs s_law_cells, defBody s_law_cells, defScope s_law_cells, [], []⟩
def d23 : He.DefD := ⟨("_law_screen", none), "_law_screen", "_law_screen", defArgs s_law_screen, defBody s_law_screen, defScope s_law_screen, [], []⟩
def d24 : He.DefD := ⟨("_law_spoilt", none), "_law_spoilt", "_law_spoilt", defArgs s_law_spoilt, defBody s_law_spoilt, defScope s_law_spoilt, [], []⟩
def d25 : He.DefD := ⟨("_law_started", none), "_law_started", "_law_started", defArgs s_law_started, defBody s_law_started, defScope s_law_started, [], []⟩
def d26 : He.DefD := ⟨("law", none), "law", "law", defArgs s_law, defBody s_law, defScope s_law, [], []⟩
def fn : List He.DefD := [d0, d1, d2, d3, d4, d5, d6, d7, d8, d9, d10, d11, d12, d13, d14, d15, d16, d17, d18, d19, d20, d21, d22, d23, d24, d25, d26]
def fa : List He.Fa := [.glo "start_screen", .glo "untested_start", .glo "blank_cells", .glo "copied_rows", .glo "is_screen", .glo "is_size", .glo "are_rows", .glo "are_cells", .glo "is_char", .glo "is_pen", .glo "is_number", .glo "is_cursor", .glo "is_band", .glo "look", .glo "shown_text", .glo "row_text", .glo "_law_draws", .glo "_law_at", .glo "_law_is_integer", .glo "_law_mix", .glo "_law_char", .glo "_law_cells", .glo "_law_screen", .glo "_law_spoilt", .glo "_law_started", .glo "law", .glo "ScreenError", .glo "OutOfRange", .free "len", .free "int", .free "abs", .free "min", .free "ord", .free "isinstance", .free "repr", .free "range", .free "all", .free "tuple", .free "list", .free "str", .free "bool", .free "ValueError", .int "MOST_ROWS" 12, .int "MOST_COLUMNS" 40, .int "MOST_PEN" 15, .int "MOST_HISTORY" 50, .int "FIRST_CHAR" 32, .int "LAST_CHAR" 126, .int "PERCENT_SIGN" 37]
def exk (K : PySem.W.Frag) : Bool := vvB K && excB K "ScreenError" "ScreenError" && excB K "OutOfRange" "ScreenError"
def ls0 : List PySem.Str := [PySem.Str.ofString "ScreenError", PySem.Str.ofString "OutOfRange", PySem.Str.ofString "MOST_ROWS", PySem.Str.ofString "MOST_COLUMNS", PySem.Str.ofString "MOST_PEN", PySem.Str.ofString "MOST_HISTORY", PySem.Str.ofString "FIRST_CHAR", PySem.Str.ofString "LAST_CHAR", PySem.Str.ofString "PERCENT_SIGN", PySem.Str.ofString "start_screen", PySem.Str.ofString "untested_start", PySem.Str.ofString "blank_cells", PySem.Str.ofString "copied_rows", PySem.Str.ofString "is_screen", PySem.Str.ofString "is_size", PySem.Str.ofString "are_rows", PySem.Str.ofString "are_cells", PySem.Str.ofString "is_char", PySem.Str.ofString "is_pen", PySem.Str.ofString "is_number", PySem.Str.ofString "is_cursor", PySem.Str.ofString "is_band", PySem.Str.ofString "look", PySem.Str.ofString "shown_text", PySem.Str.ofString "row_text", PySem.Str.ofString "_law_draws", PySem.Str.ofString "_law_at", PySem.Str.ofString "_law_is_integer", PySem.Str.ofString "_law_mix", PySem.Str.ofString "_law_char", PySem.Str.ofString "_law_cells", PySem.Str.ofString "_law_screen", PySem.Str.ofString "_law_spoilt", PySem.Str.ofString "_law_started"]
def ls : List PySem.Str := ls0
abbrev R : PySem.W.OpenRow := PySem.W.OpenLaw.row PySem.Challenge.rw_samescreen_k00_what_is_a_screen
abbrev hk : PySem.W.Hook := hookY 5 fa fn exk
def ob (s : PySem.W.SharedT) : AlY := obsY 5 fa fn exk (HandSHeadRun.getT s)
theorem ob_eq (s : PySem.W.SharedT) : ob s = hk.obs s.abs := obsY_eq (HandSHeadRun.getT_eq s)
theorem run (w : World) : HandSHeadRun.RunEq R (PySem.W.view R.prog [37]) hk ob 2000 ls w := by
  intro os
  kernel_rfl
theorem facts {Pg : Program} {w : World} {K : PySem.W.Frag} {h : Heap} {mg : Str → Option Value} {f : Addr} (X : K.In h) (G : h.Ns mainGlobals mg) (hfa : mg ("law" : Str) = some (.ref f)) (c : He.SaysD fa fn K) (hx : exk K = true) :
    ∃ fd : FuncData, (∀ (s : Shared) (u : Value), BindsTo s fd ⟨[u], []⟩ [("script", u)]) ∧ ∀ g : Heap, K.In g → g.Ns mainGlobals mg → AtTop Pg w K mg g f fd "script" (spTop K) := by
  obtain ⟨hx, hx_OutOfRange⟩ := He.ba hx
  obtain ⟨hx, hx_ScreenError⟩ := He.ba hx
  have hxv := hx
  have T : Txt K mg := {
    f_len := He.free_ok X G (c.fact 28 (f := .free "len") rfl)
    f_int := He.free_ok X G (c.fact 29 (f := .free "int") rfl)
    f_abs := He.free_ok X G (c.fact 30 (f := .free "abs") rfl)
    f_min := He.free_ok X G (c.fact 31 (f := .free "min") rfl)
    f_ord := He.free_ok X G (c.fact 32 (f := .free "ord") rfl)
    f_isinstance := He.free_ok X G (c.fact 33 (f := .free "isinstance") rfl)
    f_repr := He.free_ok X G (c.fact 34 (f := .free "repr") rfl)
    f_range := He.free_ok X G (c.fact 35 (f := .free "range") rfl)
    f_all := He.free_ok X G (c.fact 36 (f := .free "all") rfl)
    f_tuple := He.free_ok X G (c.fact 37 (f := .free "tuple") rfl)
    f_list := He.free_ok X G (c.fact 38 (f := .free "list") rfl)
    f_str := He.free_ok X G (c.fact 39 (f := .free "str") rfl)
    f_bool := He.free_ok X G (c.fact 40 (f := .free "bool") rfl)
    f_ValueError := He.free_ok X G (c.fact 41 (f := .free "ValueError") rfl)
    c_MOST_ROWS := He.int_ok X G (c.fact 42 (f := .int "MOST_ROWS" 12) rfl)
    c_MOST_COLUMNS := He.int_ok X G (c.fact 43 (f := .int "MOST_COLUMNS" 40) rfl)
    c_MOST_PEN := He.int_ok X G (c.fact 44 (f := .int "MOST_PEN" 15) rfl)
    c_MOST_HISTORY := He.int_ok X G (c.fact 45 (f := .int "MOST_HISTORY" 50) rfl)
    c_FIRST_CHAR := He.int_ok X G (c.fact 46 (f := .int "FIRST_CHAR" 32) rfl)
    c_LAST_CHAR := He.int_ok X G (c.fact 47 (f := .int "LAST_CHAR" 126) rfl)
    c_PERCENT_SIGN := He.int_ok X G (c.fact 48 (f := .int "PERCENT_SIGN" 37) rfl)
    vV := vvB_ok hxv
    g_ScreenError := He.glo_ok X G (c.fact 26 (f := .glo "ScreenError") rfl)
    e_ScreenError := excB_err hx_ScreenError
    x_ScreenError := excB_exm hx_ScreenError
    g_OutOfRange := He.glo_ok X G (c.fact 27 (f := .glo "OutOfRange") rfl)
    e_OutOfRange := excB_err hx_OutOfRange
    x_OutOfRange := excB_exm hx_OutOfRange }
  obtain ⟨fd_law_at, F_law_at⟩ := c.def_ 18 (d := d18) rfl
  obtain ⟨fd_law_mix, F_law_mix⟩ := c.def_ 20 (d := d20) rfl
  obtain ⟨fd_law_char, F_law_char⟩ := c.def_ 21 (d := d21) rfl
  obtain ⟨fd_law_draws, F_law_draws⟩ := c.def_ 17 (d := d17) rfl
  obtain ⟨fd_law_cells, F_law_cells⟩ := c.def_ 22 (d := d22) rfl
  obtain ⟨fd_law_screen, F_law_screen⟩ := c.def_ 23 (d := d23) rfl
  obtain ⟨fd_law_spoilt, F_law_spoilt⟩ := c.def_ 24 (d := d24) rfl
  obtain ⟨fd_is_number, F_is_number⟩ := c.def_ 11 (d := d11) rfl
  obtain ⟨fd_is_pen, F_is_pen⟩ := c.def_ 10 (d := d10) rfl
  obtain ⟨fd_is_char, F_is_char⟩ := c.def_ 9 (d := d9) rfl
  obtain ⟨fd_are_cells, F_are_cells⟩ := c.def_ 8 (d := d8) rfl
  obtain ⟨fd_are_rows, F_are_rows⟩ := c.def_ 7 (d := d7) rfl
  obtain ⟨fd_is_cursor, F_is_cursor⟩ := c.def_ 12 (d := d12) rfl
  obtain ⟨fd_is_band, F_is_band⟩ := c.def_ 13 (d := d13) rfl
  obtain ⟨fd_is_size, F_is_size⟩ := c.def_ 6 (d := d6) rfl
  obtain ⟨fd_is_screen, F_is_screen⟩ := c.def_ 5 (d := d5) rfl
  obtain ⟨fd_blank_cells, F_blank_cells⟩ := c.def_ 3 (d := d3) rfl
  obtain ⟨fd_untested_start, F_untested_start⟩ := c.def_ 2 (d := d2) rfl
  obtain ⟨fd_start_screen, F_start_screen⟩ := c.def_ 1 (d := d1) rfl
  obtain ⟨fd_row_text, F_row_text⟩ := c.def_ 16 (d := d16) rfl
  obtain ⟨fd_shown_text, F_shown_text⟩ := c.def_ 15 (d := d15) rfl
  obtain ⟨fd_law_started, F_law_started⟩ := c.def_ 25 (d := d25) rfl
  obtain ⟨fd_copied_rows, F_copied_rows⟩ := c.def_ 4 (d := d4) rfl
  obtain ⟨fd_look, F_look⟩ := c.def_ 14 (d := d14) rfl
  obtain ⟨fd_ErrI, F_ErrI⟩ := c.def_ 0 (d := d0) rfl
  obtain ⟨fd, F⟩ := c.def_ 26 (d := d26) rfl
  have e := hfa.symm.trans (He.glo_ok X G (c.fact 25 (f := .glo "law") rfl))
  cases e
  have b := FunD.bindsA (ps := ["script"]) F fun _ _ _ _ _ _ us hl => match us, hl with | [_], _ => rfl
  refine ⟨fd, fun s v => b s [v] rfl, fun g _ _ => ?_⟩
  have C_law_draws : CalS Pg w K mg g "_law_draws" 1 (spQ K P_law_draws) := ⟨_, _, _, (He.glo_ok X G (c.fact 16 (f := .glo "_law_draws") rfl)), F_law_draws.kp, (FunD.bindsN (ps := ["script"]) F_law_draws fun _ _ _ _ _ _ us hl => match us, hl with | [_], _ => rfl), ok_law_draws (T := T) (F := F_law_draws)⟩
  have C_copy : CalS Pg w K mg g "copied_rows" 1 (spCopy K) := ⟨_, _, _, (He.glo_ok X G (c.fact 3 (f := .glo "copied_rows") rfl)), F_copied_rows.kp, (FunD.bindsN (ps := ["rows"]) F_copied_rows fun _ _ _ _ _ _ us hl => match us, hl with | [_], _ => rfl), ok_copied_own T F_copied_rows⟩
  have C_look : CalS Pg w K mg g "look" 2 (spTri K P_look) := ⟨_, _, _, (He.glo_ok X G (c.fact 13 (f := .glo "look") rfl)), F_look.kp, (FunD.bindsN (ps := ["screen"]) F_look fun _ _ _ _ _ _ us hl => match us, hl with | [_], _ => rfl), ok_look_own T C_copy F_look⟩
  have C_law_at : Cal Pg w K mg g "_law_at" 1 3 P_law_at := ⟨_, _, _, (He.glo_ok X G (c.fact 17 (f := .glo "_law_at") rfl)), F_law_at.kp, (FunD.bindsN (ps := ["draws", "k", "many"]) F_law_at fun _ _ _ _ _ _ us hl => match us, hl with | [_, _, _], _ => rfl), ok_law_at (T := T) (F := F_law_at)⟩
  have C_law_char : Cal Pg w K mg g "_law_char" 1 1 P_law_char := ⟨_, _, _, (He.glo_ok X G (c.fact 20 (f := .glo "_law_char") rfl)), F_law_char.kp, (FunD.bindsN (ps := ["cell"]) F_law_char fun _ _ _ _ _ _ us hl => match us, hl with | [_], _ => rfl), ok_law_char (T := T) (F := F_law_char)⟩
  have C_law_mix : Cal Pg w K mg g "_law_mix" 1 3 P_law_mix := ⟨_, _, _, (He.glo_ok X G (c.fact 19 (f := .glo "_law_mix") rfl)), F_law_mix.kp, (FunD.bindsN (ps := ["draws", "k", "many"]) F_law_mix fun _ _ _ _ _ _ us hl => match us, hl with | [_, _, _], _ => rfl), ok_law_mix (T := T) (F := F_law_mix)⟩
  have C_law_cells : Cal Pg w K mg g "_law_cells" 2 4 P_law_cells := ⟨_, _, _, (He.glo_ok X G (c.fact 21 (f := .glo "_law_cells") rfl)), F_law_cells.kp, (FunD.bindsN (ps := ["draws", "k", "rows", "columns"]) F_law_cells fun _ _ _ _ _ _ us hl => match us, hl with | [_, _, _, _], _ => rfl), ok_law_cells (T := T) (C_law_char := C_law_char) (C_law_mix := C_law_mix) (F := F_law_cells)⟩
  have C_law_screen : Cal Pg w K mg g "_law_screen" 3 2 P_law_screen := ⟨_, _, _, (He.glo_ok X G (c.fact 22 (f := .glo "_law_screen") rfl)), F_law_screen.kp, (FunD.bindsN (ps := ["draws", "k"]) F_law_screen fun _ _ _ _ _ _ us hl => match us, hl with | [_, _], _ => rfl), ok_law_screen (T := T) (C_law_cells := C_law_cells) (C_law_char := C_law_char) (C_law_mix := C_law_mix) (F := F_law_screen)⟩
  have C_law_spoilt : Cal Pg w K mg g "_law_spoilt" 2 2 P_law_spoilt := ⟨_, _, _, (He.glo_ok X G (c.fact 23 (f := .glo "_law_spoilt") rfl)), F_law_spoilt.kp, (FunD.bindsN (ps := ["draws", "screen"]) F_law_spoilt fun _ _ _ _ _ _ us hl => match us, hl with | [_, _], _ => rfl), ok_law_spoilt (T := T) (C_law_at := C_law_at) (F := F_law_spoilt)⟩
  have C_is_number : Cal Pg w K mg g "is_number" 1 3 P_is_number := ⟨_, _, _, (He.glo_ok X G (c.fact 10 (f := .glo "is_number") rfl)), F_is_number.kp, (FunD.bindsN (ps := ["value", "least", "greatest"]) F_is_number fun _ _ _ _ _ _ us hl => match us, hl with | [_, _, _], _ => rfl), ok_is_number (T := T) (F := F_is_number)⟩
  have C_blank_cells : Cal Pg w K mg g "blank_cells" 1 2 P_blank_cells := ⟨_, _, _, (He.glo_ok X G (c.fact 2 (f := .glo "blank_cells") rfl)), F_blank_cells.kp, (FunD.bindsN (ps := ["count", "pen"]) F_blank_cells fun _ _ _ _ _ _ us hl => match us, hl with | [_, _], _ => rfl), ok_blank_cells (T := T) (F := F_blank_cells)⟩
  have C_untested_start : Cal Pg w K mg g "untested_start" 2 2 P_untested_start := ⟨_, _, _, (He.glo_ok X G (c.fact 1 (f := .glo "untested_start") rfl)), F_untested_start.kp, (FunD.bindsN (ps := ["rows", "columns"]) F_untested_start fun _ _ _ _ _ _ us hl => match us, hl with | [_, _], _ => rfl), ok_untested_start (T := T) (C_blank_cells := C_blank_cells) (F := F_untested_start)⟩
  have C_ErrI : CalI Pg w K mg g (He.ma K (He.ga K "ScreenError") "__init__") 1 := ⟨_, _, (FunD.bindsN (ps := ["self", "at"]) F_ErrI fun _ _ _ _ _ _ us hl => match us, hl with | [_, _], _ => rfl), ok_ErrInit T F_ErrI⟩
  have C_start_screen : CalE Pg w K mg g "start_screen" 3 (spE K 2 P_start_screen (PX_start_screen K)) := ⟨_, _, _, (He.glo_ok X G (c.fact 0 (f := .glo "start_screen") rfl)), F_start_screen.kp, (FunD.bindsN (ps := ["rows", "columns"]) F_start_screen fun _ _ _ _ _ _ us hl => match us, hl with | [_, _], _ => rfl), ok_start_screen (T := T) (C_is_number := C_is_number) (C_untested_start := C_untested_start) (C_ErrI := C_ErrI) (F := F_start_screen)⟩
  have C_law_started : Cal Pg w K mg g "_law_started" 4 2 P_law_started := ⟨_, _, _, (He.glo_ok X G (c.fact 24 (f := .glo "_law_started") rfl)), F_law_started.kp, (FunD.bindsN (ps := ["rows", "columns"]) F_law_started fun _ _ _ _ _ _ us hl => match us, hl with | [_, _], _ => rfl), ok_law_started T C_start_screen F_law_started⟩
  have C_is_char : Cal Pg w K mg g "is_char" 1 1 P_is_char := ⟨_, _, _, (He.glo_ok X G (c.fact 8 (f := .glo "is_char") rfl)), F_is_char.kp, (FunD.bindsN (ps := ["value"]) F_is_char fun _ _ _ _ _ _ us hl => match us, hl with | [_], _ => rfl), ok_is_char (T := T) (F := F_is_char)⟩
  have C_is_pen : Cal Pg w K mg g "is_pen" 2 1 P_is_pen := ⟨_, _, _, (He.glo_ok X G (c.fact 9 (f := .glo "is_pen") rfl)), F_is_pen.kp, (FunD.bindsN (ps := ["value"]) F_is_pen fun _ _ _ _ _ _ us hl => match us, hl with | [_], _ => rfl), ok_is_pen (T := T) (C_is_number := C_is_number) (F := F_is_pen)⟩
  have C_are_cells : Cal Pg w K mg g "are_cells" 3 1 P_are_cells := ⟨_, _, _, (He.glo_ok X G (c.fact 7 (f := .glo "are_cells") rfl)), F_are_cells.kp, (FunD.bindsN (ps := ["row"]) F_are_cells fun _ _ _ _ _ _ us hl => match us, hl with | [_], _ => rfl), ok_are_cells (T := T) (C_is_char := C_is_char) (C_is_pen := C_is_pen) (F := F_are_cells)⟩
  have C_are_rows : Cal Pg w K mg g "are_rows" 4 2 P_are_rows := ⟨_, _, _, (He.glo_ok X G (c.fact 6 (f := .glo "are_rows") rfl)), F_are_rows.kp, (FunD.bindsN (ps := ["rows", "columns"]) F_are_rows fun _ _ _ _ _ _ us hl => match us, hl with | [_, _], _ => rfl), ok_are_rows (T := T) (C_are_cells := C_are_cells) (F := F_are_rows)⟩
  have C_is_band : Cal Pg w K mg g "is_band" 1 2 P_is_band := ⟨_, _, _, (He.glo_ok X G (c.fact 12 (f := .glo "is_band") rfl)), F_is_band.kp, (FunD.bindsN (ps := ["band", "rows"]) F_is_band fun _ _ _ _ _ _ us hl => match us, hl with | [_, _], _ => rfl), ok_is_band (T := T) (F := F_is_band)⟩
  have C_is_cursor : Cal Pg w K mg g "is_cursor" 1 3 P_is_cursor := ⟨_, _, _, (He.glo_ok X G (c.fact 11 (f := .glo "is_cursor") rfl)), F_is_cursor.kp, (FunD.bindsN (ps := ["cursor", "rows", "columns"]) F_is_cursor fun _ _ _ _ _ _ us hl => match us, hl with | [_, _, _], _ => rfl), ok_is_cursor (T := T) (F := F_is_cursor)⟩
  have C_is_size : Cal Pg w K mg g "is_size" 1 1 P_is_size := ⟨_, _, _, (He.glo_ok X G (c.fact 5 (f := .glo "is_size") rfl)), F_is_size.kp, (FunD.bindsN (ps := ["cells"]) F_is_size fun _ _ _ _ _ _ us hl => match us, hl with | [_], _ => rfl), ok_is_size (T := T) (F := F_is_size)⟩
  have C_is_screen : Cal Pg w K mg g "is_screen" 5 1 P_is_screen := ⟨_, _, _, (He.glo_ok X G (c.fact 4 (f := .glo "is_screen") rfl)), F_is_screen.kp, (FunD.bindsN (ps := ["screen"]) F_is_screen fun _ _ _ _ _ _ us hl => match us, hl with | [_], _ => rfl), ok_is_screen (T := T) (C_are_rows := C_are_rows) (C_is_band := C_is_band) (C_is_cursor := C_is_cursor) (C_is_pen := C_is_pen) (C_is_size := C_is_size) (F := F_is_screen)⟩
  have C_row_text : Cal Pg w K mg g "row_text" 1 1 P_row_text := ⟨_, _, _, (He.glo_ok X G (c.fact 15 (f := .glo "row_text") rfl)), F_row_text.kp, (FunD.bindsN (ps := ["row"]) F_row_text fun _ _ _ _ _ _ us hl => match us, hl with | [_], _ => rfl), ok_row_text (T := T) (F := F_row_text)⟩
  have C_shown_text : Cal Pg w K mg g "shown_text" 2 1 P_shown_text := ⟨_, _, _, (He.glo_ok X G (c.fact 14 (f := .glo "shown_text") rfl)), F_shown_text.kp, (FunD.bindsN (ps := ["screen"]) F_shown_text fun _ _ _ _ _ _ us hl => match us, hl with | [_], _ => rfl), ok_shown_text (T := T) (C_row_text := C_row_text) (F := F_shown_text)⟩
  exact at_law (T := T) (C_law_draws := C_law_draws) (C_look := C_look) (C_law_at := C_law_at) (C_law_screen := C_law_screen) (C_law_spoilt := C_law_spoilt) (C_law_started := C_law_started) (C_is_screen := C_is_screen) (C_shown_text := C_shown_text) (F := F)
end My
open PySem PySem.W PySem.Calls PyProof.Rows
theorem PySem.Challenge.cw_samescreen_k00_what_is_a_screen_holds : PySem.Challenge.rw_samescreen_k00_what_is_a_screen.Holds := by
  w_on; o_law
  refine HandSHeadRun.head_any (r := OpenLaw.row PySem.Challenge.rw_samescreen_k00_what_is_a_screen) (q := view (OpenLaw.row PySem.Challenge.rw_samescreen_k00_what_is_a_screen).prog [37]) (H := My.hk) (ob := My.ob) (M := 2000) (loose := My.ls) (d := HandSHeadRun.topDef (OpenLaw.row PySem.Challenge.rw_samescreen_k00_what_is_a_screen).prog 37) (kwd := []) My.ob_eq
    (by kernel_rfl) (fun s => by kernel_rfl) My.run (by kernel_rfl) (by kernel_rfl) (by kernel_rfl) (by rfl) (by first | assumption | decide +kernel) (by decide +kernel) ⟨rfl, rfl, rfl, rfl, rfl, by decide +kernel⟩ ?hw ?hc
  case hw => w_witness2
  case hc =>
    refine DD.walk_top (l := PySem.Challenge.rw_samescreen_k00_what_is_a_screen) (n := 63) (x := "script") rfl (by decide) (by kernel_rfl) ?F
    intro w mg fa h Y G hmg0
    obtain ⟨K, KX, c, hx⟩ := Y
    have hmg : mg ("law" : PySem.Str) = some (.ref fa) := by
      have e : (HandSHeadRun.topDef (OpenLaw.row PySem.Challenge.rw_samescreen_k00_what_is_a_screen).prog 37).name = ("law" : PySem.Str) := by kernel_rfl
      rw [← e]
      exact hmg0
    obtain ⟨fd, hb, hF⟩ := My.facts (Pg := (PySem.Challenge.rw_samescreen_k00_what_is_a_screen).prog) (w := w) KX G hmg c hx
    exact ⟨K, fd, DD.spTop K, KX, hb, fun H a ns hl hS => ⟨a, ns, rfl, hS, hl, fun _ => rfl⟩, hF⟩
#print axioms PySem.Challenge.cw_samescreen_k00_what_is_a_screen_holds
