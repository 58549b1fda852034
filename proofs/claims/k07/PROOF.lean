import PyProof.Rows.All
import Wide.All
import OpenK.AllK
import Wide.FinOn
import HandS.Base
import HandS.Call
import HandS.List
import HandS.Comp
import HandS.Ends
import HandS.Iter
import HandS.Text
import HandS.Words
import HandS.WordsList
import HandS.Evl
import HandS.Defaults
import HandS.IsInst
import HandS.TupLe
import PyProof.ReprRoads
import PyProof.StrLawsRepr
import HandS.Exc
import HandS.ExcInit
import HandS.ExcField
import HandS.ExcOwn
import HandS.FStr
import HandS.HeadHook2
import HandS.WordsExc
import HandS.Head0
import HandS.Head1
import HandS.Head2
import HandS.HeadEnd
import HandS.HeadHook1
import HandS.ExcValue
import KE.KExcIs
import KE.KStateDown
import Lean
import PySem.Challenge.RW_samescreen_k07_errors_are_apart
set_option Elab.async false
set_option linter.all false
set_option maxRecDepth 100000
set_option maxHeartbeats 4000000
namespace DD
open PySem PySem.Spec PyProof.Rows L2
open Evl (Ex ex_l ex_t ex_rd)

/-! ### heaps that grow: F what is frozen, H all -/
structure Gr (F H F' H' : Hp) : Prop where
  f : Ex F F'
  h : Ex H H'
  le : Ex F' H'
  own : ∀ q, H q ≠ none → F q = none → F' q = none
theorem Gr.refl {F H : Hp} (le : Ex F H) : Gr F H F H := ⟨Ex.refl F, Ex.refl H, le, fun _ _ h => h⟩
theorem ex_ne {H H' : Hp} (e : Ex H H') {q : Addr} (h : H q ≠ none) : H' q ≠ none := by
  cases k : H q with
  | none => exact absurd k h
  | some o => rw [e q o k]; exact nofun
theorem Gr.trans {F H F1 H1 F2 H2 : Hp} (a : Gr F H F1 H1) (b : Gr F1 H1 F2 H2) : Gr F H F2 H2 :=
  ⟨a.f.trans b.f, a.h.trans b.h, b.le, fun q h1 h2 => b.own q (ex_ne a.h h1) (a.own q h1 h2)⟩
theorem free_of {F H : Hp} (le : Ex F H) {p : Addr} (hp : H p = none) : F p = none := Evl.fresh_back le hp
theorem Gr.new {F H : Hp} (le : Ex F H) {p : Addr} (hp : H p = none) (o : HO) : Gr F H (upd F p o) (upd H p o) := by
  refine ⟨Ex.new (free_of le hp), Ex.new hp, fun a u e => ?_, fun q h1 h2 => ?_⟩
  · by_cases h : a = p
    · subst h; rw [upd_same] at e ⊢; exact e
    · rw [upd_ne h] at e ⊢; exact le a u e
  · have : q ≠ p := fun z => h1 (z ▸ hp)
    rw [upd_ne this]; exact h2
/-- a new object that is not frozen -/
theorem Gr.newH {F H : Hp} (le : Ex F H) {p : Addr} (hp : H p = none) (o : HO) : Gr F H F (upd H p o) :=
  ⟨Ex.refl F, Ex.new hp, le.trans (Ex.new hp), fun _ _ h => h⟩
/-- frozen at last -/
theorem Gr.frz {F H F' H' : Hp} (g : Gr F H F' H') {p : Addr} {o : HO} (h0 : H p = none) (h1 : F' p = none) (h2 : H' p = some o) : Gr F H (upd F' p o) H' := by
  refine ⟨g.f.trans (Ex.new h1), g.h, fun a u e => ?_, fun q a b => ?_⟩
  · by_cases h : a = p
    · subst h; rw [upd_same] at e; rw [← e]; exact h2
    · rw [upd_ne h] at e; exact g.le a u e
  · have : q ≠ p := fun z => a (z ▸ h0)
    rw [upd_ne this]; exact g.own q a b
/-! ### data: as Dp of the hand layer, but lists are tracked or locked, never the module's own -/
mutual
inductive Dq (K : PySem.W.Frag) (H : Hp) : V → PyData → Prop
  | non : Dq K H .non .none
  | bl (b : Bool) : Dq K H (.bl b) (.bool b)
  | int (i : Int) : Dq K H (.int i) (.int i)
  | str (x : Str) : Dq K H (.str x) (.str x)
  | lst {a : Addr} {xs : List V} {ds : List PyData} (h : Rd H a (.lst xs)) (t : DqAll K H xs ds) : Dq K H (.ref a) (.list ds)
  | tup {a : Addr} {xs : List V} {ds : List PyData} (h : SqT K H a xs) (t : DqAll K H xs ds) : Dq K H (.ref a) (.tuple ds)
inductive DqAll (K : PySem.W.Frag) (H : Hp) : List V → List PyData → Prop
  | nil : DqAll K H [] []
  | cons {v : V} {vs : List V} {d : PyData} {ds : List PyData} (h : Dq K H v d) (t : DqAll K H vs ds) : DqAll K H (v :: vs) (d :: ds)
end
section
variable {K : PySem.W.Frag}
mutual
theorem dp_mono {F F' : Hp} (e : Ex F F') : ∀ (d : PyData) (v : V), Dq K F v d → Dq K F' v d
  | .none, _, h => by cases h; exact .non
  | .bool b, _, h => by cases h; exact .bl b
  | .int i, _, h => by cases h; exact .int i
  | .str x, _, h => by cases h; exact .str x
  | .list ds, _, h => by
    cases h with
    | lst hs ha => exact .lst (ex_rd e hs) (dpa_mono e ds _ ha)
  | .tuple ds, _, h => by
    cases h with
    | tup hs ha => exact .tup (ex_t e hs) (dpa_mono e ds _ ha)
  | .dict _, _, h => by cases h
theorem dpa_mono {F F' : Hp} (e : Ex F F') : ∀ (ds : List PyData) (vs : List V), DqAll K F vs ds → DqAll K F' vs ds
  | [], _, h => by cases h; exact .nil
  | d :: ds, _, h => by
    cases h with
    | cons h1 h2 => exact .cons (dp_mono e d _ h1) (dpa_mono e ds _ h2)
end
mutual
theorem dq_dp {F : Hp} : ∀ (d : PyData) (v : V), Dq K F v d → Dp K F v d
  | .none, _, h => by cases h; exact .non
  | .bool b, _, h => by cases h; exact .bl b
  | .int i, _, h => by cases h; exact .int i
  | .str x, _, h => by cases h; exact .str x
  | .list ds, _, h => by
    cases h with
    | lst hs ha => exact .lst (.inl hs) (dqa_dpa ds _ ha)
  | .tuple ds, _, h => by
    cases h with
    | tup hs ha => exact .tup hs (dqa_dpa ds _ ha)
  | .dict _, _, h => by cases h
theorem dqa_dpa {F : Hp} : ∀ (ds : List PyData) (vs : List V), DqAll K F vs ds → DpAll K F vs ds
  | [], _, h => by cases h; exact .nil
  | d :: ds, _, h => by
    cases h with
    | cons h1 h2 => exact .cons (dq_dp d _ h1) (dqa_dpa ds _ h2)
end
theorem dpa_len {F : Hp} : ∀ {vs : List V} {ds : List PyData}, DqAll K F vs ds → vs.length = ds.length
  | _, _, .nil => rfl
  | _, _, .cons _ t => by rw [List.length_cons, List.length_cons, dpa_len t]
theorem dpa_get {F : Hp} : ∀ {vs : List V} {ds : List PyData} {i : Nat} {d : PyData}, DqAll K F vs ds → ds[i]? = some d → ∃ v, vs[i]? = some v ∧ Dq K F v d
  | _, _, _, _, .nil, e => by simp at e
  | _, _, 0, _, .cons h _, e => by simp at e; subst e; exact ⟨_, rfl, h⟩
  | _, _, i + 1, d, .cons _ t, e => by
    obtain ⟨v, h1, h2⟩ := dpa_get (i := i) (d := d) t (by simpa using e)
    exact ⟨v, by simpa using h1, h2⟩
theorem dpa_get' {F : Hp} : ∀ {vs : List V} {ds : List PyData} {i : Nat} {v : V}, DqAll K F vs ds → vs[i]? = some v → ∃ d, ds[i]? = some d ∧ Dq K F v d
  | _, _, _, _, .nil, e => by simp at e
  | _, _, 0, _, .cons h _, e => by simp at e; subst e; exact ⟨_, rfl, h⟩
  | _, _, i + 1, d, .cons _ t, e => by
    obtain ⟨v, h1, h2⟩ := dpa_get' (i := i) (v := d) t (by simpa using e)
    exact ⟨v, by simpa using h1, h2⟩
theorem dpa_app {F : Hp} : ∀ {vs ws : List V} {ds es : List PyData}, DqAll K F vs ds → DqAll K F ws es → DqAll K F (vs ++ ws) (ds ++ es)
  | _, _, _, _, .nil, h => h
  | _, _, _, _, .cons h t, k => .cons h (dpa_app t k)
theorem dpa_take {F : Hp} : ∀ {vs : List V} {ds : List PyData} (n : Nat), DqAll K F vs ds → DqAll K F (vs.take n) (ds.take n)
  | _, _, 0, _ => .nil
  | _, _, _ + 1, .nil => .nil
  | _, _, n + 1, .cons h t => .cons h (dpa_take n t)
theorem dpa_drop {F : Hp} : ∀ {vs : List V} {ds : List PyData} (n : Nat), DqAll K F vs ds → DqAll K F (vs.drop n) (ds.drop n)
  | _, _, 0, h => h
  | _, _, _ + 1, .nil => .nil
  | _, _, n + 1, .cons _ t => dpa_drop n t
theorem dpa_rep {F : Hp} {v : V} {d : PyData} (h : Dq K F v d) : ∀ n : Nat, DqAll K F (List.replicate n v) (List.replicate n d)
  | 0 => .nil
  | n + 1 => .cons h (dpa_rep h n)
theorem dp_ints {F : Hp} : ∀ ns : List Int, DqAll K F (ns.map V.int) (ns.map PyData.int)
  | [] => .nil
  | n :: ns => .cons (.int n) (dp_ints ns)
end
/-! ### slots -/
inductive Sl where
  | no
  | dt (d : PyData)
  | ow (ds : List PyData)
  | raw (v : V)
  | sq (xs : List V)
  | tr (P : Hp → V → Prop)
def SlOk (K : PySem.W.Frag) (H0 F H : Hp) (s : Option V) : Sl → Prop
  | .no => True
  | .dt d => ∃ v, s = some v ∧ Dq K F v d
  | .ow ds => ∃ p vs, s = some (.ref p) ∧ H0 p = none ∧ F p = none ∧ H p = some (.lst vs) ∧ DqAll K F vs ds
  | .raw v => s = some v
  | .sq xs => ∃ a, s = some (.ref a) ∧ SqL K F a xs
  | .tr P => ∃ v, s = some v ∧ ∀ F', Ex F F' → P F' v
/-- F0 H0: at the entry of the def; F H: now -/
structure Env (K : PySem.W.Frag) (F0 H0 F H : Hp) (σ : L2.St) (ρ : List Sl) : Prop where
  gr : Gr F0 H0 F H
  len : σ.length = ρ.length
  ok : ∀ (i : Nat) (x : Sl), ρ[i]? = some x → ∃ s, σ[i]? = some s ∧ SlOk K H0 F H s x
  dis : ∀ (i j : Nat) (p : Addr) (di dj : List PyData), i ≠ j → ρ[i]? = some (.ow di) → ρ[j]? = some (.ow dj) → σ[i]? = some (some (.ref p)) → σ[j]? ≠ some (some (.ref p))
section
variable {K : PySem.W.Frag} {F0 H0 F H F' H' : Hp} {σ : L2.St} {ρ : List Sl}
theorem Env.grow (e : Env K F0 H0 F H σ ρ) (g : Gr F H F' H') : Env K F0 H0 F' H' σ ρ := by
  refine ⟨e.gr.trans g, e.len, fun i x hx => ?_, e.dis⟩
  obtain ⟨s, h1, h2⟩ := e.ok i x hx
  refine ⟨s, h1, ?_⟩
  cases x with
  | no => trivial
  | dt d => obtain ⟨v, a, b⟩ := h2; exact ⟨v, a, dp_mono g.f d v b⟩
  | ow ds =>
    obtain ⟨p, vs, a, b, c, d, k⟩ := h2
    refine ⟨p, vs, a, b, g.own p (by rw [d]; exact nofun) c, g.h p _ d, dpa_mono g.f ds vs k⟩
  | raw v => exact h2
  | sq xs => obtain ⟨p, a, b⟩ := h2; exact ⟨p, a, ex_l g.f b⟩
  | tr P => obtain ⟨v, a, b⟩ := h2; exact ⟨v, a, fun F2 e2 => b F2 (g.f.trans e2)⟩
theorem Env.le (e : Env K F0 H0 F H σ ρ) : Ex F H := e.gr.le
theorem Env.data (e : Env K F0 H0 F H σ ρ) {i : Nat} {d : PyData} (h : ρ[i]? = some (.dt d)) : ∃ v, σ[i]? = some (some v) ∧ Dq K F v d := by
  obtain ⟨s, h1, v, h2, h3⟩ := e.ok i _ h
  exact ⟨v, by rw [h1, h2], h3⟩
theorem Env.set (e : Env K F0 H0 F H σ ρ) (i : Nat) {v : V} {x : Sl} (hn : ∀ ds, x ≠ .ow ds) (hx : SlOk K H0 F H (some v) x) : Env K F0 H0 F H (σ.set i (some v)) (ρ.set i x) := by
  refine ⟨e.gr, by rw [List.length_set, List.length_set, e.len], fun j y hy => ?_, fun j k p dj dk hjk hj hk aj ak => ?_⟩
  · by_cases hij : i = j
    · subst hij
      have hl : i < ρ.length := by
        have := (List.getElem?_eq_some_iff.mp hy).1
        rwa [List.length_set] at this
      rw [List.getElem?_set_self hl] at hy
      cases hy
      exact ⟨_, List.getElem?_set_self (by rw [e.len]; exact hl), hx⟩
    · rw [List.getElem?_set_ne hij] at hy ⊢
      exact e.ok j y hy
  · by_cases hij : i = j
    · subst hij
      have hl : i < ρ.length := by
        have := (List.getElem?_eq_some_iff.mp hj).1
        rwa [List.length_set] at this
      rw [List.getElem?_set_self hl] at hj
      cases hj
      exact hn _ rfl
    · by_cases hik : i = k
      · subst hik
        have hl : i < ρ.length := by
          have := (List.getElem?_eq_some_iff.mp hk).1
          rwa [List.length_set] at this
        rw [List.getElem?_set_self hl] at hk
        cases hk
        exact hn _ rfl
      · rw [List.getElem?_set_ne hij] at hj aj
        rw [List.getElem?_set_ne hik] at hk ak
        exact e.dis j k p dj dk hjk hj hk aj ak
theorem Env.setD (e : Env K F0 H0 F H σ ρ) (i : Nat) {v : V} {d : PyData} (h : Dq K F v d) : Env K F0 H0 F H (σ.set i (some v)) (ρ.set i (.dt d)) :=
  e.set i (fun _ => nofun) ⟨v, rfl, h⟩
/-- a new list that the frame owns -/
theorem Env.setO (e : Env K F0 H0 F H σ ρ) (i : Nat) {p : Addr} {vs : List V} {ds : List PyData} (g : Gr F H F' H') (h0 : H p = none) (h1 : F' p = none) (h2 : H' p = some (.lst vs)) (h3 : DqAll K F' vs ds) :
    Env K F0 H0 F' H' (σ.set i (some (.ref p))) (ρ.set i (.ow ds)) := by
  have e' := e.grow g
  have hp0 : H0 p = none := Evl.fresh_back e.gr.h h0
  have npre : ∀ (j : Nat) (dj : List PyData), ρ[j]? = some (.ow dj) → σ[j]? ≠ some (some (.ref p)) := fun j dj hj hs => by
    obtain ⟨s, a, q, us, b, _, _, c, _⟩ := e.ok j _ hj
    rw [a] at hs
    cases hs
    cases b
    rw [h0] at c
    cases c
  refine ⟨e'.gr, by rw [List.length_set, List.length_set, e.len], fun j y hy => ?_, fun j k q dj dk hjk hj hk aj ak => ?_⟩
  · by_cases hij : i = j
    · subst hij
      have hl : i < ρ.length := by
        have := (List.getElem?_eq_some_iff.mp hy).1
        rwa [List.length_set] at this
      rw [List.getElem?_set_self hl] at hy
      cases hy
      exact ⟨_, List.getElem?_set_self (by rw [e.len]; exact hl), p, vs, rfl, hp0, h1, h2, h3⟩
    · rw [List.getElem?_set_ne hij] at hy ⊢
      exact e'.ok j y hy
  · by_cases hij : i = j
    · subst hij
      have hl : i < σ.length := by
        have := (List.getElem?_eq_some_iff.mp aj).1
        rwa [List.length_set] at this
      rw [List.getElem?_set_self hl] at aj
      cases aj
      rw [List.getElem?_set_ne hjk] at hk ak
      exact npre k dk hk ak
    · by_cases hik : i = k
      · subst hik
        have hl : i < σ.length := by
          have := (List.getElem?_eq_some_iff.mp ak).1
          rwa [List.length_set] at this
        rw [List.getElem?_set_self hl] at ak
        cases ak
        rw [List.getElem?_set_ne hij] at hj aj
        exact npre j dj hj aj
      · rw [List.getElem?_set_ne hij] at hj aj
        rw [List.getElem?_set_ne hik] at hk ak
        exact e.dis j k q dj dk hjk hj hk aj ak
/-- what an own list holds is told anew -/
theorem Env.upO (e : Env K F0 H0 F H σ ρ) {i : Nat} {p : Addr} {ds es : List PyData} {ws : List V} (hi : ρ[i]? = some (.ow ds)) (hs : σ[i]? = some (some (.ref p))) (h3 : DqAll K F ws es) :
    Env K F0 H0 F (upd H p (.lst ws)) σ (ρ.set i (.ow es)) := by
  obtain ⟨s, a, q, vs, b, p0, pF, pH, _⟩ := e.ok i _ hi
  rw [a] at hs
  cases hs
  cases b
  have hl : i < ρ.length := (List.getElem?_eq_some_iff.mp hi).1
  refine ⟨⟨e.gr.f, e.gr.h.mut p0, e.gr.le.mut pF, e.gr.own⟩, by rw [List.length_set, e.len], fun j y hy => ?_, fun j k q dj dk hjk hj hk aj ak => ?_⟩
  · by_cases hij : i = j
    · subst hij
      rw [List.getElem?_set_self hl] at hy
      cases hy
      exact ⟨_, a, p, ws, rfl, p0, pF, upd_same, h3⟩
    · rw [List.getElem?_set_ne hij] at hy
      obtain ⟨s, h1, h2⟩ := e.ok j y hy
      refine ⟨s, h1, ?_⟩
      cases y with
      | no => trivial
      | dt d => exact h2
      | raw v => exact h2
      | sq xs => exact h2
      | tr P => exact h2
      | ow dj =>
        obtain ⟨r, us, c1, c2, c3, c4, c5⟩ := h2
        have hr : r ≠ p := fun z => by
          subst z
          subst c1
          exact e.dis i j r ds dj hij hi hy a h1
        exact ⟨r, us, c1, c2, c3, by rw [upd_ne hr]; exact c4, c5⟩
  · have old : ∀ {k : Nat} {dk : List PyData}, (ρ.set i (.ow es))[k]? = some (.ow dk) → ∃ dk', ρ[k]? = some (.ow dk') := fun {k dk} h => by
      by_cases hik : i = k
      · subst hik; exact ⟨_, hi⟩
      · rw [List.getElem?_set_ne hik] at h; exact ⟨_, h⟩
    obtain ⟨_, hj'⟩ := old hj
    obtain ⟨_, hk'⟩ := old hk
    exact e.dis j k q _ _ hjk hj' hk' aj ak
/-- an own list is frozen -/
theorem Env.frz (e : Env K F0 H0 F H σ ρ) {i : Nat} {ds : List PyData} (hi : ρ[i]? = some (.ow ds)) : ∃ F', Ex F F' ∧ Env K F0 H0 F' H σ (ρ.set i (.dt (.list ds))) := by
  obtain ⟨s, a, p, vs, b, p0, pF, pH, pd⟩ := e.ok i _ hi
  have hl : i < ρ.length := (List.getElem?_eq_some_iff.mp hi).1
  subst b
  refine ⟨upd F p (.lst vs), Ex.new pF, e.gr.frz p0 pF pH, by rw [List.length_set, e.len], fun j y hy => ?_, fun j k q dj dk hjk hj hk aj ak => ?_⟩
  · by_cases hij : i = j
    · subst hij
      rw [List.getElem?_set_self hl] at hy
      cases hy
      exact ⟨_, a, _, rfl, .lst (Rd.of upd_same) (dpa_mono (Ex.new pF) ds vs pd)⟩
    · rw [List.getElem?_set_ne hij] at hy
      obtain ⟨s, h1, h2⟩ := e.ok j y hy
      refine ⟨s, h1, ?_⟩
      cases y with
      | no => trivial
      | dt d => obtain ⟨v, x, y⟩ := h2; exact ⟨v, x, dp_mono (Ex.new pF) d v y⟩
      | raw v => exact h2
      | sq xs => obtain ⟨q, x, y⟩ := h2; exact ⟨q, x, ex_l (Ex.new pF) y⟩
      | tr P => obtain ⟨v, x, y⟩ := h2; exact ⟨v, x, fun F2 e2 => y F2 ((Ex.new pF).trans e2)⟩
      | ow dj =>
        obtain ⟨r, us, c1, c2, c3, c4, c5⟩ := h2
        have hr : r ≠ p := fun z => by
          subst z
          subst c1
          exact e.dis i j r ds dj hij hi hy a h1
        exact ⟨r, us, c1, c2, by rw [upd_ne hr]; exact c3, c4, dpa_mono (Ex.new pF) dj us c5⟩
  · have old : ∀ {k : Nat} {dk : List PyData}, (ρ.set i (.dt (.list ds)))[k]? = some (.ow dk) → ∃ dk', ρ[k]? = some (.ow dk') := fun {k dk} h => by
      by_cases hik : i = k
      · subst hik
        rw [List.getElem?_set_self hl] at h
        cases h
      · rw [List.getElem?_set_ne hik] at h; exact ⟨_, h⟩
    obtain ⟨_, hj'⟩ := old hj
    obtain ⟨_, hk'⟩ := old hk
    exact e.dis j k q _ _ hjk hj' hk' aj ak
/-- slots forgotten -/
def wipeS (ρ : List Sl) : List Nat → List Sl
  | [] => ρ
  | v :: vs => (wipeS ρ vs).set v .no
theorem Env.setNo (e : Env K F0 H0 F H σ ρ) (i : Nat) (s : Option V) : Env K F0 H0 F H (σ.set i s) (ρ.set i .no) := by
  refine ⟨e.gr, by rw [List.length_set, List.length_set, e.len], fun j y hy => ?_, fun j k p dj dk hjk hj hk aj ak => ?_⟩
  · by_cases hij : i = j
    · subst hij
      have hl : i < ρ.length := by
        have := (List.getElem?_eq_some_iff.mp hy).1
        rwa [List.length_set] at this
      rw [List.getElem?_set_self hl] at hy
      cases hy
      exact ⟨_, List.getElem?_set_self (by rw [e.len]; exact hl), trivial⟩
    · rw [List.getElem?_set_ne hij] at hy ⊢
      exact e.ok j y hy
  · by_cases hij : i = j
    · subst hij
      have hl : i < ρ.length := by
        have := (List.getElem?_eq_some_iff.mp hj).1
        rwa [List.length_set] at this
      rw [List.getElem?_set_self hl] at hj
      cases hj
    · by_cases hik : i = k
      · subst hik
        have hl : i < ρ.length := by
          have := (List.getElem?_eq_some_iff.mp hk).1
          rwa [List.length_set] at this
        rw [List.getElem?_set_self hl] at hk
        cases hk
      · rw [List.getElem?_set_ne hij] at hj aj
        rw [List.getElem?_set_ne hik] at hk ak
        exact e.dis j k p dj dk hjk hj hk aj ak
theorem Env.wipe (e : Env K F0 H0 F H σ ρ) : ∀ vs : List Nat, Env K F0 H0 F H (L2.wipe σ vs) (wipeS ρ vs)
  | [] => e
  | v :: vs => (Env.wipe e vs).setNo v none
end
end DD

set_option Elab.async false
set_option linter.all false
set_option maxRecDepth 100000
set_option maxHeartbeats 4000000
namespace DD
open PySem PySem.Spec PyProof.Rows L2
open Evl (Ex ex_l ex_t ex_rd)
/-! ### what an expression gives, as data -/
section
variable (K : PySem.W.Frag)
def XD (te : TE) (ρ : List Sl) (d : PyData) : Prop := ∀ F0 H0 F H σ, Env K F0 H0 F H σ ρ → ∀ Q : VK, (∀ v F' H', Gr F H F' H' → Dq K F' v d → Q v H') → te σ H Q
/-- a new list that none has but us -/
def XO (te : TE) (ρ : List Sl) (ds : List PyData) : Prop := ∀ F0 H0 F H σ, Env K F0 H0 F H σ ρ → ∀ Q : VK,
  (∀ p vs F' H', Gr F H F' H' → H p = none → F' p = none → H' p = some (.lst vs) → DqAll K F' vs ds → Q (.ref p) H') → te σ H Q
def XT (tt : TT) (ρ : List Sl) (b : Bool) : Prop := ∀ F0 H0 F H σ, Env K F0 H0 F H σ ρ → ∀ Q : Bool → Hp → Prop, (∀ F' H', Gr F H F' H' → Q b H') → tt σ H Q
def XA (ta : TA) (ρ : List Sl) (ds : List PyData) : Prop := ∀ F0 H0 F H σ, Env K F0 H0 F H σ ρ → ∀ Q : List V → Hp → Prop, (∀ vs F' H', Gr F H F' H' → DqAll K F' vs ds → Q vs H') → ta σ H Q
def XP (to : TO) (ρ : List Sl) (o : Option Int) : Prop := ∀ F0 H0 F H σ, Env K F0 H0 F H σ ρ → ∀ Q : Option Int → Hp → Prop, (∀ F' H', Gr F H F' H' → Q o H') → to σ H Q
/-- a target: what it binds; vs: the slots that it may touch -/
def XG (g : TG) (d : PyData) (ρ ρ' : List Sl) (vs : List Nat) : Prop := ∀ F0 H0 F H σ v, Env K F0 H0 F H σ ρ → Dq K F v d → ∀ Q : L2.St → Hp → Prop,
  (∀ σ', Env K F0 H0 F H σ' ρ' → (σ'.length = σ.length ∧ ∀ k, k ∉ vs → σ'[k]? = σ[k]?) → Q σ' H) → g v σ H Q
/-- an iterator that gives n things -/
def ItD (J : It) (F : Hp) (n : Nat) (d : Nat → PyData) : Prop :=
  (∀ i H, Ex F H → i < n → J.go i H) ∧ (∀ i H, Ex F H → n ≤ i → J.stop i H) ∧ ∀ i F1 H x H', Ex F F1 → Ex F1 H → i < n → J.yld i H x H' → ∃ F', Gr F1 H F' H' ∧ Dq K F' x (d i)
def XI (wi : TI) (ρ : List Sl) (n : Nat) (d : Nat → PyData) : Prop := ∀ F0 H0 F H σ, Env K F0 H0 F H σ ρ → ∀ R : It → Hp → Prop, (∀ J F' H', Gr F H F' H' → ItD K J F' n d → R J H') → wi σ H R
/-- a statement: B what is known of the heaps at the entry, N what follows it, R what it returns -/
def SD (B : Hp → Hp → Prop) (ts : TS) (ρ : List Sl) (N : List Sl → Prop) (R : PyData → Prop) : Prop := ∀ F0 H0 F H σ (D : Ends), B F0 H0 → Env K F0 H0 F H σ ρ →
  (∀ F' H' σ' ρ', N ρ' → Ex F F' → Env K F0 H0 F' H' σ' ρ' → D.nx σ' H') → (∀ F' H' v d, R d → Gr F0 H0 F' H' → Dq K F' v d → D.rt v H') → ts D σ H
end
section
variable {K : PySem.W.Frag} {ρ ρ' : List Sl} {ta tb te : TE} {t u : TT} {d e : PyData} {ds es : List PyData}
theorem XO.xd (h : XO K te ρ ds) : XD K te ρ (.list ds) := fun F0 H0 F H σ E Q q => h F0 H0 F H σ E Q fun p vs F' H' g hp h1 h2 h3 =>
  q _ (upd F' p (.lst vs)) H' (g.frz hp h1 h2) (.lst (Rd.of upd_same) (dpa_mono (Ex.new h1) _ _ h3))
theorem XD.is (h : XD K te ρ d) (q : d = e) : XD K te ρ e := q ▸ h
theorem XT.is {b c : Bool} (h : XT K t ρ b) (q : b = c) : XT K t ρ c := q ▸ h
theorem XO.is (h : XO K te ρ ds) (q : ds = es) : XO K te ρ es := q ▸ h
theorem xd_var {i : Nat} (h : ρ[i]? = some (.dt d)) : XD K (tVar i) ρ d := fun F0 H0 F H σ E Q q => by
  obtain ⟨v, h1, h2⟩ := E.data h
  exact ⟨v, h1, q v F H (Gr.refl E.le) h2⟩
theorem xd_int {i : Int} : XD K (tC (.int i)) ρ (.int i) := fun F0 H0 F H σ E Q q => q _ F H (Gr.refl E.le) (.int i)
theorem xd_str {x : Str} : XD K (tC (.str x)) ρ (.str x) := fun F0 H0 F H σ E Q q => q _ F H (Gr.refl E.le) (.str x)
theorem xd_bl {b : Bool} : XD K (tC (.bl b)) ρ (.bool b) := fun F0 H0 F H σ E Q q => q _ F H (Gr.refl E.le) (.bl b)
theorem xd_non : XD K (tC .non) ρ .none := fun F0 H0 F H σ E Q q => q _ F H (Gr.refl E.le) .non
/-- a thing of the module -/
theorem xd_mod {v : V} (h : ∀ F, Dq K F v d) : XD K (tC v) ρ d := fun F0 H0 F H σ E Q q => q _ F H (Gr.refl E.le) (h F)
/-- two operands, an operation on their data -/
def RD2 (K : PySem.W.Frag) (r : R2) (d e f : PyData) : Prop := ∀ F H x y, Ex F H → Dq K F x d → Dq K F y e → ∀ Q : VK, (∀ v F' H', Gr F H F' H' → Dq K F' v f → Q v H') → r x y H Q
theorem xd_op {r : R2} {f : PyData} (ha : XD K ta ρ d) (hb : XD K tb ρ e) (hr : RD2 K r d e f) : XD K (tOp r ta tb) ρ f := fun F0 H0 F H σ E Q q =>
  ha F0 H0 F H σ E _ fun x F1 H1 g1 d1 => hb F0 H0 F1 H1 σ (E.grow g1) _ fun y F2 H2 g2 d2 =>
    hr F2 H2 x y g2.le (dp_mono g2.f _ _ d1) d2 Q fun v F3 H3 g3 d3 => q v F3 H3 ((g1.trans g2).trans g3) d3
theorem xd_un {r : V → Hp → VK → Prop} {f : PyData} (ha : XD K ta ρ d) (hr : ∀ F H x, Ex F H → Dq K F x d → ∀ Q : VK, (∀ v F' H', Gr F H F' H' → Dq K F' v f → Q v H') → r x H Q) : XD K (tUn r ta) ρ f := fun F0 H0 F H σ E Q q =>
  ha F0 H0 F H σ E _ fun x F1 H1 g1 d1 => hr F1 H1 x g1.le d1 Q fun v F3 H3 g3 d3 => q v F3 H3 (g1.trans g3) d3
theorem dp_int {F : Hp} {x : V} {i : Int} (h : Dq K F x (.int i)) : x = .int i := by cases h; rfl
theorem dp_str {F : Hp} {x : V} {i : Str} (h : Dq K F x (.str i)) : x = .str i := by cases h; rfl
theorem dp_bl {F : Hp} {x : V} {i : Bool} (h : Dq K F x (.bool i)) : x = .bl i := by cases h; rfl
theorem dp_non {F : Hp} {x : V} (h : Dq K F x .none) : x = .non := by cases h; rfl
theorem dp_lst {F : Hp} {x : V} (h : Dq K F x (.list ds)) : ∃ a xs, x = .ref a ∧ SqL K F a xs ∧ DqAll K F xs ds := by
  cases h with
  | lst a b => exact ⟨_, _, rfl, .inl a, b⟩
theorem dp_lstR {F : Hp} {x : V} (h : Dq K F x (.list ds)) : ∃ a xs, x = .ref a ∧ Rd F a (.lst xs) ∧ DqAll K F xs ds := by
  cases h with
  | lst a b => exact ⟨_, _, rfl, a, b⟩
theorem dp_tup {F : Hp} {x : V} (h : Dq K F x (.tuple ds)) : ∃ a xs, x = .ref a ∧ SqT K F a xs ∧ DqAll K F xs ds := by
  cases h with
  | tup a b => exact ⟨_, _, rfl, a, b⟩
/-! ints -/
theorem rd_I0 {g : Int → Int → V} {i j : Int} {f : PyData} (hf : ∀ F, Dq K F (g i j) f) : RD2 K (rI0 g) (.int i) (.int j) f := fun F H x y le hx hy Q q =>
  ⟨i, j, dp_int hx, dp_int hy, q _ F H (Gr.refl le) (hf F)⟩
theorem rd_I {C : Int → Int → Prop} {g : Int → Int → V} {i j : Int} {f : PyData} (hc : C i j) (hf : ∀ F, Dq K F (g i j) f) : RD2 K (rI C g) (.int i) (.int j) f := fun F H x y le hx hy Q q =>
  ⟨i, j, dp_int hx, dp_int hy, hc, q _ F H (Gr.refl le) (hf F)⟩
theorem xd_I0 {g : Int → Int → Int} {i j : Int} (ha : XD K ta ρ (.int i)) (hb : XD K tb ρ (.int j)) : XD K (tOp (rI0 fun i j => .int (g i j)) ta tb) ρ (.int (g i j)) := xd_op ha hb (rd_I0 fun _ => .int _)
theorem xd_B0 {g : Int → Int → Bool} {i j : Int} (ha : XD K ta ρ (.int i)) (hb : XD K tb ρ (.int j)) : XD K (tOp (rI0 fun i j => .bl (g i j)) ta tb) ρ (.bool (g i j)) := xd_op ha hb (rd_I0 fun _ => .bl _)
theorem xd_I {C : Int → Int → Prop} {g : Int → Int → Int} {i j : Int} (ha : XD K ta ρ (.int i)) (hb : XD K tb ρ (.int j)) (hc : C i j) : XD K (tOp (rI C fun i j => .int (g i j)) ta tb) ρ (.int (g i j)) := xd_op ha hb (rd_I hc fun _ => .int _)
theorem xd_neg {g : Int → Int} {i : Int} (ha : XD K ta ρ (.int i)) : XD K (tUn (rU fun i => .int (g i)) ta) ρ (.int (g i)) := xd_un ha fun F H x le hx Q q => ⟨i, dp_int hx, q _ F H (Gr.refl le) (.int _)⟩
/-! == of scalars -/
def sv : PyData → Option V
  | .none => some .non
  | .bool b => some (.bl b)
  | .int i => some (.int i)
  | .str x => some (.str x)
  | _ => none
theorem dp_sv {F : Hp} {x : V} {v : V} (h : Dq K F x d) (hs : sv d = some v) : x = v := by
  cases h <;> cases hs <;> rfl
theorem xd_eq {x y : V} (ha : XD K ta ρ d) (hb : XD K tb ρ e) (hx : sv d = some x) (hy : sv e = some y) (hs : scal x y = true) : XD K (tOp rEq ta tb) ρ (.bool (decide (x = y))) :=
  xd_op ha hb fun F H a b le h1 h2 Q q => by
    rw [dp_sv h1 hx, dp_sv h2 hy]
    exact ⟨hs, q _ F H (Gr.refl le) (.bl _)⟩
theorem xd_ne {x y : V} (ha : XD K ta ρ d) (hb : XD K tb ρ e) (hx : sv d = some x) (hy : sv e = some y) (hs : scal x y = true) : XD K (tOp rNe ta tb) ρ (.bool (!decide (x = y))) :=
  xd_op ha hb fun F H a b le h1 h2 Q q => by
    rw [dp_sv h1 hx, dp_sv h2 hy]
    exact ⟨hs, q _ F H (Gr.refl le) (.bl _)⟩
theorem xd_eqI {i j : Int} (ha : XD K ta ρ (.int i)) (hb : XD K tb ρ (.int j)) : XD K (tOp rEq ta tb) ρ (.bool (decide (i = j))) :=
  (xd_eq ha hb rfl rfl rfl).is (by rw [show decide (V.int i = V.int j) = decide (i = j) from by simp])
theorem xd_neI {i j : Int} (ha : XD K ta ρ (.int i)) (hb : XD K tb ρ (.int j)) : XD K (tOp rNe ta tb) ρ (.bool (!decide (i = j))) :=
  (xd_ne ha hb rfl rfl rfl).is (by rw [show decide (V.int i = V.int j) = decide (i = j) from by simp])
theorem xd_eqS {i j : Str} (ha : XD K ta ρ (.str i)) (hb : XD K tb ρ (.str j)) : XD K (tOp rEq ta tb) ρ (.bool (decide (i = j))) :=
  (xd_eq ha hb rfl rfl rfl).is (by rw [show decide (V.str i = V.str j) = decide (i = j) from by simp])
theorem xd_neS {i j : Str} (ha : XD K ta ρ (.str i)) (hb : XD K tb ρ (.str j)) : XD K (tOp rNe ta tb) ρ (.bool (!decide (i = j))) :=
  (xd_ne ha hb rfl rfl rfl).is (by rw [show decide (V.str i = V.str j) = decide (i = j) from by simp])
/-! == of data -/
theorem xd_eqD (ha : XD K ta ρ d) (hb : XD K tb ρ e) (h1 : SeqAt.shaped d = true) (h2 : SeqAt.shaped e = true) : XD K (tOp (rEqD K) ta tb) ρ (.bool (PyData.eqv d e)) :=
  xd_op ha hb fun F H x y le hx hy Q q => ⟨d, e, dq_dp _ _ (dp_mono le _ _ hx), dq_dp _ _ (dp_mono le _ _ hy), h1, h2, q _ F H (Gr.refl le) (.bl _)⟩
theorem xd_neD (ha : XD K ta ρ d) (hb : XD K tb ρ e) (h1 : SeqAt.shaped d = true) (h2 : SeqAt.shaped e = true) : XD K (tOp (rNeD K) ta tb) ρ (.bool (!PyData.eqv d e)) :=
  xd_op ha hb fun F H x y le hx hy Q q => ⟨d, e, dq_dp _ _ (dp_mono le _ _ hx), dq_dp _ _ (dp_mono le _ _ hy), h1, h2, q _ F H (Gr.refl le) (.bl _)⟩
/-! is None -/
def isN : PyData → Bool
  | .none => true
  | _ => false
theorem xd_isN (ha : XD K ta ρ d) : XD K (tIsN ta) ρ (.bool (isN d)) := fun F0 H0 F H σ E Q q => ha F0 H0 F H σ E _ fun x F1 H1 g1 d1 => by
  have e : decide (x = V.non) = isN d := by cases d1 <;> rfl
  show Q (.bl (decide (x = V.non))) H1
  rw [e]
  exact q _ F1 H1 g1 (.bl _)
theorem xd_notN (ha : XD K ta ρ d) : XD K (tNotN ta) ρ (.bool (!isN d)) := fun F0 H0 F H σ E Q q => ha F0 H0 F H σ E _ fun x F1 H1 g1 d1 => by
  have e : decide (x = V.non) = isN d := by cases d1 <;> rfl
  show Q (.bl (!decide (x = V.non))) H1
  rw [e]
  exact q _ F1 H1 g1 (.bl _)
/-! tests -/
theorem xt_test {b : Bool} (h : XD K te ρ (.bool b)) : XT K (tTest te) ρ b := fun F0 H0 F H σ E Q q => h F0 H0 F H σ E _ fun v F1 H1 g d => ⟨b, dp_bl d, q F1 H1 g⟩
theorem xt_B {b : Bool} (h : XD K te ρ (.bool b)) : XT K (tB te) ρ b := fun F0 H0 F H σ E Q q => h F0 H0 F H σ E _ fun v F1 H1 g d => ⟨b, dp_bl d, q F1 H1 g⟩
theorem xt_and {a b : Bool} (h1 : XT K t ρ a) (h2 : a = true → XT K u ρ b) : XT K (tAnd t u) ρ (a && b) := fun F0 H0 F H σ E Q q => h1 F0 H0 F H σ E _ fun F1 H1 g => by
  cases a with
  | true => exact h2 rfl F0 H0 F1 H1 σ (E.grow g) Q fun F2 H2 g2 => q F2 H2 (g.trans g2)
  | false => exact q F1 H1 g
theorem xt_or {a b : Bool} (h1 : XT K t ρ a) (h2 : a = false → XT K u ρ b) : XT K (tOr t u) ρ (a || b) := fun F0 H0 F H σ E Q q => h1 F0 H0 F H σ E _ fun F1 H1 g => by
  cases a with
  | true => exact q F1 H1 g
  | false => exact h2 rfl F0 H0 F1 H1 σ (E.grow g) Q fun F2 H2 g2 => q F2 H2 (g.trans g2)
theorem xt_not {a : Bool} (h1 : XT K t ρ a) : XT K (tNot t) ρ (!a) := fun F0 H0 F H σ E Q q => h1 F0 H0 F H σ E _ fun F1 H1 g => q F1 H1 g
theorem xd_and {a b : Bool} (h1 : XD K ta ρ (.bool a)) (h2 : a = true → XD K tb ρ (.bool b)) : XD K (tAndV ta tb) ρ (.bool (a && b)) := fun F0 H0 F H σ E Q q => h1 F0 H0 F H σ E _ fun v F1 H1 g d => ⟨a, dp_bl d, by
  cases a with
  | true => exact h2 rfl F0 H0 F1 H1 σ (E.grow g) Q fun v F2 H2 g2 => q v F2 H2 (g.trans g2)
  | false => exact q _ F1 H1 g (.bl false)⟩
theorem xd_or {a b : Bool} (h1 : XD K ta ρ (.bool a)) (h2 : a = false → XD K tb ρ (.bool b)) : XD K (tOrV ta tb) ρ (.bool (a || b)) := fun F0 H0 F H σ E Q q => h1 F0 H0 F H σ E _ fun v F1 H1 g d => ⟨a, dp_bl d, by
  cases a with
  | true => exact q _ F1 H1 g (.bl true)
  | false => exact h2 rfl F0 H0 F1 H1 σ (E.grow g) Q fun v F2 H2 g2 => q v F2 H2 (g.trans g2)⟩
theorem xd_not {a : Bool} (h1 : XD K ta ρ (.bool a)) : XD K (tNotV ta) ρ (.bool (!a)) := fun F0 H0 F H σ E Q q => h1 F0 H0 F H σ E _ fun v F1 H1 g d => ⟨a, dp_bl d, q _ F1 H1 g (.bl _)⟩
theorem xd_if {b : Bool} {f : PyData} (h : XT K t ρ b) (h1 : b = true → XD K ta ρ d) (h2 : b = false → XD K tb ρ e) (hf : (if b = true then d else e) = f) : XD K (tIf t ta tb) ρ f := fun F0 H0 F H σ E Q q => h F0 H0 F H σ E _ fun F1 H1 g => by
  cases b with
  | true => exact h1 rfl F0 H0 F1 H1 σ (E.grow g) Q fun v F2 H2 g2 d2 => q v F2 H2 (g.trans g2) (hf ▸ d2)
  | false => exact h2 rfl F0 H0 F1 H1 σ (E.grow g) Q fun v F2 H2 g2 d2 => q v F2 H2 (g.trans g2) (hf ▸ d2)
/-- a op1 b op2 c of ints -/
theorem xd_chain {tc : TE} {p q' : Int → Int → Bool} {i j k : Int} (ha : XD K ta ρ (.int i)) (hb : XD K tb ρ (.int j)) (hc : p i j = true → XD K tc ρ (.int k)) :
    XD K (tChain (rI0 fun i j => .bl (p i j)) (rI0 fun i j => .bl (q' i j)) ta tb tc) ρ (.bool (p i j && q' j k)) := fun F0 H0 F H σ E Q q =>
  ha F0 H0 F H σ E _ fun x F1 H1 g1 d1 => hb F0 H0 F1 H1 σ (E.grow g1) _ fun y F2 H2 g2 d2 => ⟨i, j, dp_int d1, dp_int d2, p i j, rfl, by
    cases hp : p i j with
    | true => exact hc hp F0 H0 F2 H2 σ ((E.grow g1).grow g2) _ fun z F3 H3 g3 d3 => ⟨j, k, dp_int d2, dp_int d3, q _ F3 H3 ((g1.trans g2).trans g3) (by rw [hp, Bool.true_and]; exact .bl _)⟩
    | false => exact q _ F2 H2 (g1.trans g2) (by rw [hp, Bool.false_and]; exact .bl _)⟩
/-! argument lists, displays -/
theorem xa_nil : XA K tNil ρ [] := fun F0 H0 F H σ E Q q => q [] F H (Gr.refl E.le) .nil
theorem xa_cons {tr : TA} (h : XD K ta ρ d) (hr : XA K tr ρ ds) : XA K (tCons ta tr) ρ (d :: ds) := fun F0 H0 F H σ E Q q =>
  h F0 H0 F H σ E _ fun v F1 H1 g1 d1 => hr F0 H0 F1 H1 σ (E.grow g1) _ fun vs F2 H2 g2 d2 => q _ F2 H2 (g1.trans g2) (.cons (dp_mono g2.f _ _ d1) d2)
theorem xd_tup {tr : TA} (h : XA K tr ρ ds) (hl : ds.length ≤ 100000) : XD K (tTup tr) ρ (.tuple ds) := fun F0 H0 F H σ E Q q =>
  h F0 H0 F H σ E _ fun vs F1 H1 g1 d1 => ⟨by rw [dpa_len d1]; exact Evl.sz_of hl, fun p hp => by
    have g2 := Gr.new g1.le hp (.tup vs)
    exact q _ _ _ (g1.trans g2) (.tup (SqT.of upd_same) (dpa_mono g2.f _ _ d1))⟩
theorem xo_lst {tr : TA} (h : XA K tr ρ ds) (hl : ds.length ≤ 100000) : XO K (tLst tr) ρ ds := fun F0 H0 F H σ E Q q =>
  h F0 H0 F H σ E _ fun vs F1 H1 g1 d1 => ⟨by rw [dpa_len d1]; exact Evl.sz_of hl, fun p hp =>
    q p vs F1 _ (g1.trans (Gr.newH g1.le hp (.lst vs))) (Evl.fresh_back g1.h hp) (free_of g1.le hp) upd_same d1⟩
/-! calls of builtins by their values -/
def RDC (K : PySem.W.Frag) (r : List V → Hp → VK → Prop) (ds : List PyData) (f : PyData) : Prop := ∀ F H vs, Ex F H → DqAll K F vs ds → ∀ Q : VK, (∀ v F' H', Gr F H F' H' → Dq K F' v f → Q v H') → r vs H Q
theorem xd_cb {r : List V → Hp → VK → Prop} {tr : TA} {f : PyData} (h : XA K tr ρ ds) (hr : RDC K r ds f) : XD K (tCB r tr) ρ f := fun F0 H0 F H σ E Q q =>
  h F0 H0 F H σ E _ fun vs F1 H1 g1 d1 => hr F1 H1 vs g1.le d1 Q fun v F2 H2 g2 d2 => q v F2 H2 (g1.trans g2) d2
theorem dpa1 {F : Hp} {vs : List V} (h : DqAll K F vs [d]) : ∃ v, vs = [v] ∧ Dq K F v d := by
  cases h with
  | cons a b => cases b; exact ⟨_, rfl, a⟩
theorem dpa2 {F : Hp} {vs : List V} (h : DqAll K F vs [d, e]) : ∃ v w, vs = [v, w] ∧ Dq K F v d ∧ Dq K F w e := by
  cases h with
  | cons a b => obtain ⟨w, rfl, c⟩ := dpa1 b; exact ⟨_, _, rfl, a, c⟩
theorem rc_abs {i : Int} : RDC K (fun xs H Q => ∃ i, xs = [.int i] ∧ Q (.int (if i < 0 then -i else i)) H) [.int i] (.int (if i < 0 then -i else i)) := fun F H vs le h Q q => by
  obtain ⟨v, rfl, a⟩ := dpa1 h
  exact ⟨i, by rw [dp_int a], q _ F H (Gr.refl le) (.int _)⟩
theorem rc_int {i : Int} {Z : List V → Hp → VK → Prop} : RDC K (fun xs H Q => (∃ i, xs = [.int i] ∧ Q (.int i) H) ∨ Z xs H Q) [.int i] (.int i) := fun F H vs le h Q q => by
  obtain ⟨v, rfl, a⟩ := dpa1 h
  exact .inl ⟨i, by rw [dp_int a], q _ F H (Gr.refl le) (.int _)⟩
theorem rc_intB {b : Bool} {Z : List V → Hp → VK → Prop} : RDC K (fun xs H Q => Z xs H Q ∨ ∃ k, xs = [.bl k] ∧ Q (.int (if k then 1 else 0)) H) [.bool b] (.int (if b then 1 else 0)) := fun F H vs le h Q q => by
  obtain ⟨v, rfl, a⟩ := dpa1 h
  exact .inr ⟨b, by rw [dp_bl a], q _ F H (Gr.refl le) (.int _)⟩
theorem rc_min {i j : Int} : RDC K (fun xs H Q => ∃ i j, xs = [.int i, .int j] ∧ Q (.int (if j < i then j else i)) H) [.int i, .int j] (.int (min i j)) := fun F H vs le h Q q => by
  obtain ⟨v, w, rfl, a, b⟩ := dpa2 h
  refine ⟨i, j, by rw [dp_int a, dp_int b], ?_⟩
  rw [show (if j < i then j else i) = min i j from by split <;> omega]
  exact q _ F H (Gr.refl le) (.int _)
theorem rc_max {i j : Int} : RDC K (fun xs H Q => ∃ i j, xs = [.int i, .int j] ∧ Q (.int (if j > i then j else i)) H) [.int i, .int j] (.int (max i j)) := fun F H vs le h Q q => by
  obtain ⟨v, w, rfl, a, b⟩ := dpa2 h
  refine ⟨i, j, by rw [dp_int a, dp_int b], ?_⟩
  rw [show (if j > i then j else i) = max i j from by split <;> omega]
  exact q _ F H (Gr.refl le) (.int _)
theorem rc_lenL : RDC K (fun xs H Q => ∃ x n, xs = [x] ∧ LenV K x H n ∧ Q (.int n) H) [.list ds] (.int ds.length) := fun F H vs le h Q q => by
  obtain ⟨v, rfl, a⟩ := dpa1 h
  obtain ⟨p, xs, rfl, b, c⟩ := dp_lst a
  exact ⟨_, ds.length, rfl, .inl ⟨xs, ex_l le b, (dpa_len c).symm⟩, q _ F H (Gr.refl le) (.int _)⟩
theorem rc_lenT : RDC K (fun xs H Q => ∃ x n, xs = [x] ∧ LenV K x H n ∧ Q (.int n) H) [.tuple ds] (.int ds.length) := fun F H vs le h Q q => by
  obtain ⟨v, rfl, a⟩ := dpa1 h
  obtain ⟨p, xs, rfl, b, c⟩ := dp_tup a
  exact ⟨_, ds.length, rfl, .inr ⟨xs, ex_t le b, (dpa_len c).symm⟩, q _ F H (Gr.refl le) (.int _)⟩
theorem rc_lenS {x : Str} (hx : x.length ≤ sizeLine) : RDC K (fun xs H Q => ∃ x n, xs = [x] ∧ LenV K x H n ∧ Q (.int n) H) [.str x] (.int x.length) := fun F H vs le h Q q => by
  obtain ⟨v, rfl, a⟩ := dpa1 h
  rw [dp_str a]
  exact ⟨_, x.length, rfl, ⟨hx, rfl⟩, q _ F H (Gr.refl le) (.int _)⟩
theorem rc_ord {x : Str} (hx : x.length = 1) : RDC K (fun xs H Q => ∃ x, xs = [.str x] ∧ x.length = 1 ∧ Q (.int (x.cps.getD 0 0 : Nat)) H) [.str x] (.int (x.cps.getD 0 0 : Nat)) := fun F H vs le h Q q => by
  obtain ⟨v, rfl, a⟩ := dpa1 h
  rw [dp_str a]
  exact ⟨x, rfl, hx, q _ F H (Gr.refl le) (.int _)⟩
theorem rc_all {bs : List Bool} : RDC K (rAll K) [.list (bs.map .bool)] (.bool (bs.all id)) := fun F H vs le h Q q => by
  obtain ⟨v, rfl, a⟩ := dpa1 h
  obtain ⟨p, xs, rfl, b, c⟩ := dp_lst a
  have e : xs = bs.map V.bl := by
    clear b a h q
    induction bs generalizing xs with
    | nil => cases c; rfl
    | cons z zs ih =>
      cases c with
      | cons c1 c2 => rw [dp_bl c1, List.map_cons, ih _ c2]
  subst e
  exact ⟨p, bs, rfl, ex_l le b, q _ F H (Gr.refl le) (.bl _)⟩
/-! items -/
theorem xd_ixL {i : Int} (ha : XD K ta ρ (.list ds)) (hb : XD K tb ρ (.int i)) (h : atI ds i = some d) : XD K (tOp (rIxL K) ta tb) ρ d :=
  xd_op ha hb fun F H x y le hx hy Q q => by
    obtain ⟨p, xs, rfl, b, c⟩ := dp_lst hx
    obtain ⟨j, e1, e2⟩ := Option.bind_eq_some_iff.mp (show (ixN ds.length i).bind (fun j => ds[j]?) = some d from h)
    obtain ⟨v, h1, h2⟩ := dpa_get c e2
    exact ⟨p, xs, i, v, rfl, dp_int hy, ex_l le b, by unfold atI; rw [dpa_len c, e1]; exact h1, q _ F H (Gr.refl le) h2⟩
theorem xd_ixT {i : Int} (ha : XD K ta ρ (.tuple ds)) (hb : XD K tb ρ (.int i)) (h : atI ds i = some d) : XD K (tOp (rIxT K) ta tb) ρ d :=
  xd_op ha hb fun F H x y le hx hy Q q => by
    obtain ⟨p, xs, rfl, b, c⟩ := dp_tup hx
    obtain ⟨j, e1, e2⟩ := Option.bind_eq_some_iff.mp (show (ixN ds.length i).bind (fun j => ds[j]?) = some d from h)
    obtain ⟨v, h1, h2⟩ := dpa_get c e2
    exact ⟨p, xs, i, v, rfl, dp_int hy, ex_t le b, by unfold atI; rw [dpa_len c, e1]; exact h1, q _ F H (Gr.refl le) h2⟩
theorem xd_ixS {i : Int} {x : Str} {c : Nat} (ha : XD K ta ρ (.str x)) (hb : XD K tb ρ (.int i)) (hx : x.length ≤ 100000) (h : atI x.cps.toList i = some c) : XD K (tOp rIxS ta tb) ρ (.str ⟨#[c]⟩) :=
  xd_op ha hb fun F H x' y le h1 h2 Q q => ⟨x, i, c, dp_str h1, dp_int h2, Evl.sz_of hx, h, q _ F H (Gr.refl le) (.str _)⟩
/-! slices -/
def cutD (xs : List PyData) (lo hi : Option Int) : List PyData := (xs.drop (HT.sIx xs.length 0 lo)).take (HT.sIx xs.length xs.length hi - HT.sIx xs.length 0 lo)
theorem dpa_cut {F : Hp} {vs : List V} (h : DqAll K F vs ds) (lo hi : Option Int) : DqAll K F (cutV vs lo hi) (cutD ds lo hi) := by
  unfold cutV cutD
  rw [dpa_len h]
  exact dpa_take _ (dpa_drop _ h)
theorem xp_none : XP K tNoPart ρ none := fun F0 H0 F H σ E Q q => q F H (Gr.refl E.le)
theorem xp_some {i : Int} (h : XD K te ρ (.int i)) : XP K (tPart te) ρ (some i) := fun F0 H0 F H σ E Q q => h F0 H0 F H σ E _ fun v F1 H1 g d => ⟨i, dp_int d, q F1 H1 g⟩
theorem xo_sl {tl th : TO} {lo hi : Option Int} (h : XD K te ρ (.list ds)) (h1 : XP K tl ρ lo) (h2 : XP K th ρ hi) : XO K (tSl (rSlL K) te tl th) ρ (cutD ds lo hi) := fun F0 H0 F H σ E Q q =>
  h F0 H0 F H σ E _ fun v F1 H1 g1 d1 => h1 F0 H0 F1 H1 σ (E.grow g1) _ fun F2 H2 g2 => h2 F0 H0 F2 H2 σ ((E.grow g1).grow g2) _ fun F3 H3 g3 => by
    obtain ⟨a, xs, rfl, b, c⟩ := dp_lst d1
    have g := (g1.trans g2).trans g3
    have c' := dpa_mono (g2.f.trans g3.f) _ _ c
    exact ⟨a, xs, rfl, ex_l g3.le (ex_l (g2.f.trans g3.f) b), fun p hp => q p _ F3 _ (g.trans (Gr.newH g.le hp _)) (Evl.fresh_back g.h hp) (free_of g.le hp) upd_same (dpa_cut c' lo hi)⟩
theorem xd_slT {tl th : TO} {lo hi : Option Int} (h : XD K te ρ (.tuple ds)) (h1 : XP K tl ρ lo) (h2 : XP K th ρ hi) (hw : ¬ (HT.sIx ds.length 0 lo = 0 ∧ HT.sIx ds.length ds.length hi = ds.length)) :
    XD K (tSl (rSlT K) te tl th) ρ (.tuple (cutD ds lo hi)) := fun F0 H0 F H σ E Q q =>
  h F0 H0 F H σ E _ fun v F1 H1 g1 d1 => h1 F0 H0 F1 H1 σ (E.grow g1) _ fun F2 H2 g2 => h2 F0 H0 F2 H2 σ ((E.grow g1).grow g2) _ fun F3 H3 g3 => by
    obtain ⟨a, xs, rfl, b, c⟩ := dp_tup d1
    have g := (g1.trans g2).trans g3
    have c' := dpa_mono (g2.f.trans g3.f) _ _ c
    refine ⟨a, xs, rfl, ex_t g3.le (ex_t (g2.f.trans g3.f) b), by rw [dpa_len c]; exact hw, fun p hp => ?_⟩
    have gn := Gr.new g.le hp (.tup (cutV xs lo hi))
    exact q _ _ _ (g.trans gn) (.tup (SqT.of upd_same) (dpa_mono gn.f _ _ (dpa_cut c' lo hi)))
/-! + of lists that may be read -/
def rCatR : R2 := fun x y H Q => ∃ l b xs zs, x = .ref l ∧ y = .ref b ∧ Rd H l (.lst xs) ∧ Rd H b (.lst zs) ∧ xs.length + zs.length ≤ sizeLine ∧ ∀ p, H p = none → Q (.ref p) (upd H p (.lst (xs ++ zs)))
theorem rd_lst {X : Cx} {pins : List (Addr × Obj)} {σ : L2.St} {H : Hp} {s : Shared} {a : Addr} {xs : List V} (I : Inv X pins σ H s) (h : Rd H a (.lst xs)) : ∃ (its : List Value) (n : Nat), Vals xs its ∧ s.heap.get? a = some { cls := .type "list", data := .seq its.toArray n } := by
  rcases h with h | ⟨o, h⟩
  · obtain ⟨_, its, n, r, e⟩ := (show ObjOk X.prog X.w H s.heap a (.lst xs) from I.hok a _ h)
    exact ⟨its, n, r, e⟩
  · obtain ⟨_, _, its, n, r, e⟩ := (show ObjOk X.prog X.w H s.heap a (.frz o (.lst xs)) from I.hok a _ h)
    exact ⟨its, n, r, e⟩
theorem op_catR {X : Cx} : OpR X (binaryOp .Add) rCatR := by
  intro pins s σ H x y v u Q I rx ry h
  obtain ⟨l, b, xs, zs, rfl, rfl, h1, h2, hz, q⟩ := h
  cases (show v = Value.ref l from rx)
  cases (show u = Value.ref b from ry)
  obtain ⟨i1, n1, r1, e1⟩ := rd_lst I h1
  obtain ⟨i2, n2, r2, e2⟩ := rd_lst I h2
  have l1 := r1.length
  have l2 := r2.length
  refine PySem.P.add_list e1 e2 ?_ (by simp only [List.size_toArray]; omega)
  rw [show i1.toArray ++ i2.toArray = (i1 ++ i2).toArray by simp]
  exact ⟨.ref _, _, I.lnew (t' := s.toks) (r1.append r2) (by rw [List.length_append]; exact hz), rfl, q _ I.fresh⟩
/-! + of lists (new ones), of tuples, of texts -/
theorem xo_cat (ha : XD K ta ρ (.list ds)) (hb : XD K tb ρ (.list es)) (hz : ds.length + es.length ≤ 100000) : XO K (tOp rCatR ta tb) ρ (ds ++ es) := fun F0 H0 F H σ E Q q =>
  ha F0 H0 F H σ E _ fun v F1 H1 g1 d1 => hb F0 H0 F1 H1 σ (E.grow g1) _ fun u F2 H2 g2 d2 => by
    have g := g1.trans g2
    obtain ⟨a, xs, rfl, a1, a2⟩ := dp_lstR d1
    obtain ⟨b, ys, rfl, b1, b2⟩ := dp_lstR d2
    exact ⟨a, b, xs, ys, rfl, rfl, ex_rd (g2.f.trans g2.le) a1, ex_rd g2.le b1, by rw [dpa_len a2, dpa_len b2]; exact Evl.sz_of hz, fun n hn =>
      q n _ F2 _ (g.trans (Gr.newH g.le hn _)) (Evl.fresh_back g.h hn) (free_of g.le hn) upd_same (dpa_app (dpa_mono g2.f _ _ a2) b2)⟩
theorem xd_catS {x y : Str} (ha : XD K ta ρ (.str x)) (hb : XD K tb ρ (.str y)) (hz : x.length + y.length ≤ 16777216) :
    XD K (tOp (fun x y H Q => ∃ i j, x = .str i ∧ y = .str j ∧ i.length + j.length ≤ sizeLine ∧ Q (.str (i ++ j)) H) ta tb) ρ (.str (x ++ y)) :=
  xd_op ha hb fun F H a b le h1 h2 Q q => ⟨x, y, dp_str h1, dp_str h2, Nat.le_trans hz (by decide), q _ F H (Gr.refl le) (.str _)⟩
theorem xd_catT (ha : XD K ta ρ (.tuple ds)) (hb : XD K tb ρ (.tuple es)) (hn : ds ≠ []) (hz : ds.length + es.length ≤ 100000) : XD K (tOp (rCatT K) ta tb) ρ (.tuple (ds ++ es)) :=
  xd_op ha hb fun F H x y le hx hy Q q => by
    obtain ⟨a, xs, rfl, b, c⟩ := dp_tup hx
    obtain ⟨a', ys, rfl, b', c'⟩ := dp_tup hy
    refine ⟨a, a', xs, ys, rfl, rfl, ex_t le b, ex_t le b', fun z => hn ?_, by rw [dpa_len c, dpa_len c']; exact Evl.sz_of hz, fun z => ?_, fun z p hp => ?_⟩
    · subst z; cases c; rfl
    · subst z
      cases c'
      exact q _ F H (Gr.refl le) (by rw [List.append_nil]; exact .tup b c)
    · have gn := Gr.new le hp (.tup (xs ++ ys))
      exact q _ _ _ gn (.tup (SqT.of upd_same) (dpa_mono gn.f _ _ (dpa_app c c')))
/-- a new list of one item, n times -/
theorem xo_rep1 {n : Int} (ha : XO K ta ρ [d]) (hb : XD K tb ρ (.int n)) (hz : -100000 ≤ n ∧ n ≤ 100000) : XO K (tOp rRep ta tb) ρ (List.replicate n.toNat d) := fun F0 H0 F H σ E Q q =>
  ha F0 H0 F H σ E _ fun p vs F1 H1 g1 hp p1 p2 p3 => hb F0 H0 F1 H1 σ (E.grow g1) _ fun y F2 H2 g2 d2 => by
    have g := g1.trans g2
    obtain ⟨v, rfl, dv⟩ := dpa1 p3
    have e : ∀ m : Nat, (List.replicate m [v]).flatten = List.replicate m v := fun m => by
      induction m with
      | zero => rfl
      | succ m ih => rw [List.replicate_succ, List.flatten_cons, ih]; rfl
    refine ⟨p, n, [v], rfl, dp_int d2, g2.h p _ p2, by omega, by omega, ?_, fun r hr => ?_⟩
    · exact Evl.sz_of (by simp only [List.length_singleton]; omega)
    · rw [e]
      exact q r _ F2 _ (g.trans (Gr.newH g.le hr _)) (Evl.fresh_back g.h hr) (free_of g.le hr) upd_same (dpa_rep (dp_mono g2.f _ _ dv) _)
end
end DD

set_option Elab.async false
set_option linter.all false
set_option maxRecDepth 100000
set_option maxHeartbeats 4000000
namespace DD
open PySem PySem.Spec PyProof.Rows L2
open Evl (Ex ex_l ex_t ex_rd)
section
variable {K : PySem.W.Frag} {ρ ρ' ρ'' : List Sl} {ta tb te : TE} {t u : TT} {d e : PyData} {ds es : List PyData}
/-! ### targets -/
theorem xg_name (i : Nat) : XG K (gName i) d ρ (ρ.set i (.dt d)) [i] := fun F0 H0 F H σ v E dv Q q =>
  q _ (E.setD i dv) ⟨List.length_set, fun k hk => List.getElem?_set_ne (fun z => hk (by rw [z]; exact List.mem_singleton_self _))⟩
def XGs (K : PySem.W.Frag) (g : TGs) (ds : List PyData) (ρ ρ' : List Sl) (vs : List Nat) : Prop := ∀ F0 H0 F H σ xs, Env K F0 H0 F H σ ρ → DqAll K F xs ds → ∀ Q : L2.St → Hp → Prop,
  (∀ σ', Env K F0 H0 F H σ' ρ' → (σ'.length = σ.length ∧ ∀ k, k ∉ vs → σ'[k]? = σ[k]?) → Q σ' H) → g xs σ H Q
theorem xgs_nil : XGs K gNil [] ρ ρ [] := fun F0 H0 F H σ xs E dv Q q => by
  cases dv
  exact ⟨rfl, q σ E ⟨rfl, fun _ _ => rfl⟩⟩
theorem xgs_cons {g : TG} {gs : TGs} {us vs : List Nat} (h1 : XG K g d ρ ρ' us) (h2 : XGs K gs ds ρ' ρ'' vs) : XGs K (gCons g gs) (d :: ds) ρ ρ'' (us ++ vs) := fun F0 H0 F H σ xs E dv Q q => by
  cases dv with
  | cons a b =>
    refine ⟨_, _, rfl, h1 F0 H0 F H σ _ E a _ fun σ1 E1 k1 => h2 F0 H0 F H σ1 _ E1 b _ fun σ2 E2 k2 => q σ2 E2 ⟨k2.1.trans k1.1, fun k hk => ?_⟩⟩
    rw [k2.2 k fun z => hk (List.mem_append_right _ z), k1.2 k fun z => hk (List.mem_append_left _ z)]
theorem xg_tup {n : Nat} {gs : TGs} {vs : List Nat} (h : XGs K gs ds ρ ρ' vs) (hn : ds.length = n) : XG K (gTup K n gs) (.tuple ds) ρ ρ' vs := fun F0 H0 F H σ v E dv Q q => by
  obtain ⟨a, xs, rfl, b, c⟩ := dp_tup dv
  exact ⟨a, xs, rfl, ex_t E.le b, by rw [dpa_len c]; exact hn, h F0 H0 F H σ xs E c Q q⟩
/-! ### iterators -/
theorem xi_list (h : XD K te ρ (.list ds)) : XI K (iList K te) ρ ds.length (fun i => ds.getD i .none) := fun F0 H0 F H σ E R r =>
  h F0 H0 F H σ E _ fun v F1 H1 g d1 => by
    obtain ⟨a, xs, rfl, b, c⟩ := dp_lst d1
    refine ⟨a, rfl, ⟨xs, ex_l g.le b⟩, r _ F1 H1 g ⟨fun i H2 e2 hi => ?_, fun i H2 e2 hi => ⟨xs, ex_l e2 b, by rw [dpa_len c]; exact hi⟩, fun i F2 H2 x H3 e1 e2 hi hy => ?_⟩⟩
    · have hx : i < xs.length := by rw [dpa_len c]; exact hi
      exact ⟨xs, xs[i], ex_l e2 b, List.getElem?_eq_getElem hx⟩
    · obtain ⟨rfl, hall⟩ := hy
      have hg : ds[i]? = some (ds.getD i .none) := by
        rw [List.getD_eq_getElem?_getD, List.getElem?_eq_getElem hi]; rfl
      obtain ⟨v, q1, q2⟩ := dpa_get c hg
      have hv := hall xs (ex_l e2 (ex_l e1 b))
      rw [q1] at hv
      cases hv
      exact ⟨F2, Gr.refl e2, dp_mono e1 _ _ q2⟩
theorem xi_tup (h : XD K te ρ (.tuple ds)) : XI K (iTup K te) ρ ds.length (fun i => ds.getD i .none) := fun F0 H0 F H σ E R r =>
  h F0 H0 F H σ E _ fun v F1 H1 g d1 => by
    obtain ⟨a, xs, rfl, b, c⟩ := dp_tup d1
    refine ⟨a, rfl, ⟨xs, ex_t g.le b⟩, r _ F1 H1 g ⟨fun i H2 e2 hi => ?_, fun i H2 e2 hi => ⟨xs, ex_t e2 b, by rw [dpa_len c]; exact hi⟩, fun i F2 H2 x H3 e1 e2 hi hy => ?_⟩⟩
    · have hx : i < xs.length := by rw [dpa_len c]; exact hi
      exact ⟨xs, xs[i], ex_t e2 b, List.getElem?_eq_getElem hx⟩
    · obtain ⟨rfl, hall⟩ := hy
      have hg : ds[i]? = some (ds.getD i .none) := by
        rw [List.getD_eq_getElem?_getD, List.getElem?_eq_getElem hi]; rfl
      obtain ⟨v, q1, q2⟩ := dpa_get c hg
      have hv := hall xs (ex_t e2 (ex_t e1 b))
      rw [q1] at hv
      cases hv
      exact ⟨F2, Gr.refl e2, dp_mono e1 _ _ q2⟩
theorem itr_d {F : Hp} {lo : Int} {n : Nat} : ItD K (Itr lo n) F n (fun i => .int (lo + i)) :=
  ⟨fun i H _ hi => hi, fun i H _ hi => hi, fun i F1 H x H' _ e2 _ hy => by
    obtain ⟨rfl, rfl⟩ := hy
    exact ⟨F1, Gr.refl e2, .int _⟩⟩
theorem xi_rng1 {tr : TA} {n : Int} (h : XA K tr ρ [.int n]) (hn : -100000 ≤ n ∧ n ≤ 100000) : XI K (iRng1 tr) ρ n.toNat (fun i => .int i) := fun F0 H0 F H σ E R r =>
  h F0 H0 F H σ E _ fun vs F1 H1 g d1 => by
    obtain ⟨v, rfl, dv⟩ := dpa1 d1
    rw [dp_int dv]
    refine ⟨n, rfl, by omega, by omega, r _ F1 H1 g ?_⟩
    have := itr_d (K := K) (F := F1) (lo := 0) (n := n.toNat)
    simpa using this
theorem xi_rng2 {tr : TA} {m n : Int} (h : XA K tr ρ [.int m, .int n]) (hm : -100000 ≤ m ∧ m ≤ 100000) (hn : -100000 ≤ n ∧ n ≤ 100000) : XI K (iRng2 tr) ρ (n - m).toNat (fun i => .int (m + i)) := fun F0 H0 F H σ E R r =>
  h F0 H0 F H σ E _ fun vs F1 H1 g d1 => by
    obtain ⟨v, w, rfl, dv, dw⟩ := dpa2 d1
    rw [dp_int dv, dp_int dw]
    exact ⟨m, n, rfl, ⟨by omega, by omega, by omega, by omega⟩, r _ F1 H1 g itr_d⟩
/-! ### comprehensions -/
theorem wipe_len (σ : L2.St) : ∀ vs : List Nat, (L2.wipe σ vs).length = σ.length := L2.wipe_length σ
theorem wipe_get (σ : L2.St) : ∀ (vs : List Nat) (k : Nat), (L2.wipe σ vs)[k]? = if k ∈ vs ∧ k < σ.length then some none else σ[k]?
  | [], k => by
    rw [if_neg (by simp)]; rfl
  | v :: vs, k => by
    show ((L2.wipe σ vs).set v none)[k]? = _
    by_cases hk : v = k
    · subst hk
      by_cases hl : v < σ.length
      · rw [List.getElem?_set_self (by rw [wipe_len]; exact hl), if_pos ⟨List.mem_cons_self, hl⟩]
      · rw [if_neg (fun z => hl z.2), List.getElem?_eq_none_iff.mpr (by rw [List.length_set, wipe_len]; omega), List.getElem?_eq_none_iff.mpr (by omega)]
    · rw [List.getElem?_set_ne hk, wipe_get σ vs k]
      by_cases hm : k ∈ vs ∧ k < σ.length
      · rw [if_pos hm, if_pos ⟨List.mem_cons_of_mem _ hm.1, hm.2⟩]
      · rw [if_neg hm, if_neg]
        rintro ⟨a, b⟩
        rcases List.mem_cons.mp a with z | z
        · exact hk z.symm
        · exact hm ⟨z, b⟩
theorem wipe_ext {σ σ' : L2.St} {vs : List Nat} (hl : σ'.length = σ.length) (h : ∀ k, k ∉ vs → σ'[k]? = (L2.wipe σ vs)[k]?) : L2.wipe σ' vs = L2.wipe σ vs := by
  apply List.ext_getElem?
  intro k
  rw [wipe_get, hl]
  by_cases hk : k ∈ vs
  · by_cases hz : k < σ.length
    · rw [if_pos ⟨hk, hz⟩, wipe_get, if_pos ⟨hk, hz⟩]
    · rw [if_neg (fun z => hz z.2), List.getElem?_eq_none_iff.mpr (by omega), List.getElem?_eq_none_iff.mpr (by rw [wipe_len]; omega)]
  · rw [if_neg (fun z => hk z.1), h k hk]
/-- what has been made: the list of what the turns below n gave -/
def madeD (n : Nat) (f : Nat → Bool) (g : Nat → PyData) : List PyData := ((List.range n).filter f).map g
theorem madeD_yes {n : Nat} {f : Nat → Bool} {g : Nat → PyData} (h : f n = true) : madeD (n + 1) f g = madeD n f g ++ [g n] := by
  unfold madeD
  rw [List.range_succ, List.filter_append, List.map_append, List.filter_cons, if_pos h]
  rfl
theorem madeD_no {n : Nat} {f : Nat → Bool} {g : Nat → PyData} (h : f n = false) : madeD (n + 1) f g = madeD n f g := by
  unfold madeD
  rw [List.range_succ, List.filter_append, List.map_append, List.filter_cons, if_neg (by rw [h]; decide)]
  simp
theorem madeD_len (n : Nat) (f : Nat → Bool) (g : Nat → PyData) : (madeD n f g).length ≤ n := by
  unfold madeD
  rw [List.length_map]
  exact Nat.le_trans (List.length_filter_le f _) (by rw [List.length_range]; exact Nat.le_refl _)
theorem xo_lc {wi : TI} {g : TG} {tt : TT} {vs : List Nat} {n : Nat} {it : Nat → PyData} {f : Nat → Bool} {r : Nat → PyData} {ρt : Nat → List Sl} (hi : XI K wi ρ n it) (hn : n ≤ 50000)
    (hg : ∀ i, i < n → XG K g (it i) (wipeS ρ vs) (ρt i) vs) (ht : ∀ i, i < n → XT K tt (ρt i) (f i)) (he : ∀ i, i < n → f i = true → XD K te (ρt i) (r i)) : XO K (tLc wi g tt te vs) ρ (madeD n f r) := fun F0 H0 F H σ E Q q =>
  hi F0 H0 F H σ E _ fun J F1 H1 g1 hJ => by
    intro D hD
    have E1 := E.grow g1
    have hF1 : F1 D = none := free_of g1.le hD
    refine ⟨fun i m H2 => m = n - i ∧ i ≤ n ∧ ∃ F2 us, Gr F1 H1 F2 H2 ∧ F2 D = none ∧ H2 D = some (.lst us) ∧ DqAll K F2 us (madeD i f r), ⟨n, by omega, Nat.zero_le _, F1, [], Gr.newH g1.le hD _, hF1, upd_same, .nil⟩, ?_⟩
    rintro i m H2 ⟨rfl, hi, F2, us, g2, d1, d2, d3⟩
    by_cases hlt : i < n
    · refine .inr ⟨hJ.1 i H2 (g2.f.trans g2.le) hlt, fun H' => ∃ F2 us, Gr F1 H1 F2 H' ∧ F2 D = none ∧ H' D = some (.lst us) ∧ DqAll K F2 us (madeD (i + 1) f r), ?_, ?_⟩
      · rintro H' hN
        exact ⟨n - (i + 1), by omega, rfl, hlt, hN⟩
      · intro x H3 hy
        obtain ⟨F3, g3, dx⟩ := hJ.2.2 i F2 H2 x H3 g2.f g2.le hlt hy
        have E3 := ((E1.grow g2).grow g3).wipe vs
        refine hg i hlt F0 H0 F3 H3 _ x E3 dx _ fun σ2 E4 hk => ⟨wipe_ext (by rw [hk.1, wipe_len]) hk.2, ?_⟩
        refine ht i hlt F0 H0 F3 H3 σ2 E4 _ fun F4 H4 g4 => ?_
        have hH3 : H3 D = some (.lst us) := g3.h D _ d2
        have hF3 : F3 D = none := g3.own D (by rw [d2]; exact nofun) d1
        cases hf : f i with
        | true =>
          rw [if_pos rfl]
          refine he i hlt hf F0 H0 F4 H4 σ2 (E4.grow g4) _ fun v F5 H5 g5 d5 => ?_
          have g35 := g4.trans g5
          have hH5 : H5 D = some (.lst us) := g35.h D _ hH3
          have hF5 : F5 D = none := g35.own D (by rw [hH3]; exact nofun) hF3
          have gg := (g2.trans g3).trans g35
          refine ⟨us, hH5, ?_, F5, us ++ [v], ⟨gg.f, gg.h.mut hD, gg.le.mut hF5, gg.own⟩, hF5, upd_same, ?_⟩
          · have := madeD_len i f r
            rw [← dpa_len d3] at this
            exact Evl.sz_lt (by omega)
          · rw [madeD_yes hf]
            exact dpa_app (dpa_mono (g3.f.trans g35.f) _ _ d3) (.cons d5 .nil)
        | false =>
          rw [if_neg (by decide)]
          have gg := (g2.trans g3).trans g4
          refine ⟨F4, us, gg, g4.own D (by rw [hH3]; exact nofun) hF3, g4.h D _ hH3, ?_⟩
          rw [madeD_no hf]
          exact dpa_mono (g3.f.trans g4.f) _ _ d3
    · have hin : i = n := by omega
      subst hin
      exact .inl ⟨hJ.2.1 i H2 (g2.f.trans g2.le) (Nat.le_refl _), q D us F2 H2 (g1.trans g2) (Evl.fresh_back g1.h hD) d1 d2 d3⟩
end
/-! ### statements -/
section
variable {K : PySem.W.Frag} {ρ ρ' ρ'' : List Sl} {ta tb te : TE} {tt : TT} {t u w : TS} {d e : PyData} {ds es : List PyData} {N M : List Sl → Prop} {R : PyData → Prop} {B : Hp → Hp → Prop}
theorem sd_mono {N' : List Sl → Prop} (h : SD K B t ρ N R) (hN : ∀ r, N r → N' r) : SD K B t ρ N' R := fun F0 H0 F H σ D hB E n r =>
  h F0 H0 F H σ D hB E (fun F' H' σ' ρ' a => n F' H' σ' ρ' (hN _ a)) r
theorem sd_seq (h1 : SD K B t ρ M R) (h2 : ∀ ρ', M ρ' → SD K B u ρ' N R) : SD K B (tSeq t u) ρ N R := fun F0 H0 F H σ D hB E n r =>
  h1 F0 H0 F H σ { D with nx := u D } hB E (fun F1 H1 σ1 ρ1 a e1 E1 => h2 ρ1 a F0 H0 F1 H1 σ1 D hB E1 (fun F2 H2 σ2 ρ2 b e2 E2 => n F2 H2 σ2 ρ2 b (e1.trans e2) E2) r) r
theorem sd_next (h : N ρ) : SD K B tNext ρ N R := fun F0 H0 F H σ D hB E n r => n F H σ ρ h (Ex.refl F) E
theorem sd_asg {g : TG} {vs : List Nat} (h : XD K te ρ d) (hg : XG K g d ρ ρ' vs) (k : N ρ') : SD K B (tAsg te g) ρ N R := fun F0 H0 F H σ D hB E n r =>
  h F0 H0 F H σ E _ fun v F1 H1 g1 d1 => hg F0 H0 F1 H1 σ v (E.grow g1) d1 _ fun σ2 E2 _ => n F1 H1 σ2 ρ' k g1.f E2
theorem sd_asgO {i : Nat} (h : XO K te ρ ds) (k : N (ρ.set i (.ow ds))) : SD K B (tAsg te (gName i)) ρ N R := fun F0 H0 F H σ D hB E n r =>
  h F0 H0 F H σ E _ fun p vs F1 H1 g1 hp h1 h2 h3 => n F1 H1 _ _ k g1.f (E.setO i g1 hp h1 h2 h3)
theorem sd_drop (h : XD K te ρ d) (k : N ρ) : SD K B (tDrop te) ρ N R := fun F0 H0 F H σ D hB E n r =>
  h F0 H0 F H σ E _ fun v F1 H1 g1 d1 => n F1 H1 σ ρ k g1.f (E.grow g1)
theorem sd_ret (h : XD K te ρ d) (k : R d) : SD K B (tRet te) ρ N R := fun F0 H0 F H σ D hB E n r =>
  h F0 H0 F H σ E _ fun v F1 H1 g1 d1 => r F1 H1 v d k (E.gr.trans g1) d1
theorem sd_if {b : Bool} (h : XT K tt ρ b) (h1 : b = true → SD K B t ρ N R) (h2 : b = false → SD K B u ρ N R) : SD K B (tIfS tt t u) ρ N R := fun F0 H0 F H σ D hB E n r =>
  h F0 H0 F H σ E _ fun F1 H1 g1 => by
    cases b with
    | true => exact h1 rfl F0 H0 F1 H1 σ D hB (E.grow g1) (fun F' H' σ' ρ' a e E' => n F' H' σ' ρ' a (g1.f.trans e) E') r
    | false => exact h2 rfl F0 H0 F1 H1 σ D hB (E.grow g1) (fun F' H' σ' ρ' a e E' => n F' H' σ' ρ' a (g1.f.trans e) E') r
/-- an own list of the frame is from here on read only -/
theorem sd_frz (i : Nat) (hi : ρ[i]? = some (.ow ds)) (h : SD K B t (ρ.set i (.dt (.list ds))) N R) : SD K B t ρ N R := fun F0 H0 F H σ D hB E n r => by
  obtain ⟨F1, e1, E1⟩ := E.frz hi
  exact h F0 H0 F1 H σ D hB E1 (fun F' H' σ' ρ' a e E' => n F' H' σ' ρ' a (e1.trans e) E') r
/-- xs.append(e) of an own list -/
theorem sd_app {i : Nat} (hi : ρ[i]? = some (.ow ds)) (h : XD K te ρ d) (hz : ds.length < 100000) (k : N (ρ.set i (.ow (ds ++ [d])))) : SD K B (tDrop (tBM K "list" rAppend (tVar i) (tCons te tNil))) ρ N R := fun F0 H0 F H σ D hB E n r => by
  obtain ⟨s, a, p, vs, rfl, p0, pF, pH, pd⟩ := E.ok i _ hi
  refine ⟨.ref p, a, Or.inl ⟨rfl, vs, SqL.of pH⟩, ?_⟩
  refine h F0 H0 F H σ E _ fun v F1 H1 g1 d1 => ⟨p, vs, v, rfl, rfl, g1.h p _ pH, by rw [dpa_len pd]; exact Evl.sz_lt hz, ?_⟩
  exact n F1 _ σ _ k g1.f ((E.grow g1).upO hi a (dpa_app (dpa_mono g1.f _ _ pd) (.cons d1 .nil)))
/-- for target in iterable: I by the turn -/
theorem sd_for {wi : TI} {g : TG} {n : Nat} {it : Nat → PyData} (I : Nat → List Sl → Prop) (hi : XI K wi ρ n it) (h0 : I 0 ρ)
    (hs : ∀ i ρ1, i < n → I i ρ1 → ∃ ρ2 vs, XG K g (it i) ρ1 ρ2 vs ∧ SD K B t ρ2 (I (i + 1)) R) (hd : ∀ ρ', I n ρ' → N ρ') : SD K B (tFor wi g t) ρ N R := fun F0 H0 F H σ D hB E nn r =>
  hi F0 H0 F H σ E _ fun J F1 H1 g1 hJ => by
    refine ⟨fun i m σ' H' => m = n - i ∧ i ≤ n ∧ ∃ F2 ρ2, Ex F1 F2 ∧ I i ρ2 ∧ Env K F0 H0 F2 H' σ' ρ2, ⟨n, by omega, Nat.zero_le _, F1, ρ, Ex.refl F1, h0, E.grow g1⟩, ?_⟩
    rintro i m σ2 H2 ⟨rfl, hin, F2, ρ2, e2, hI, E2⟩
    by_cases hlt : i < n
    · refine .inr ⟨hJ.1 i H2 (e2.trans E2.le) hlt, fun σ' H' => ∃ F2 ρ2, Ex F1 F2 ∧ I (i + 1) ρ2 ∧ Env K F0 H0 F2 H' σ' ρ2, ?_, ?_⟩
      · rintro σ' H' hN
        exact ⟨n - (i + 1), by omega, rfl, hlt, hN⟩
      · intro x H3 hy
        obtain ⟨F3, g3, dx⟩ := hJ.2.2 i F2 H2 x H3 e2 E2.le hlt hy
        obtain ⟨ρ3, _, hg, hb⟩ := hs i ρ2 hlt hI
        refine hg F0 H0 F3 H3 σ2 x (E2.grow g3) dx _ fun σ4 E4 _ => ?_
        exact hb F0 H0 F3 H3 σ4 _ hB E4 (fun F5 H5 σ5 ρ5 a e5 E5 => ⟨F5, ρ5, (e2.trans g3.f).trans e5, a, E5⟩) r
    · have hin : i = n := by omega
      subst hin
      exact .inl ⟨hJ.2.1 i H2 (e2.trans E2.le) (Nat.le_refl _), nn F2 H2 σ2 ρ2 (hd ρ2 hI) (g1.f.trans e2) E2⟩
/-! together -/
theorem sd_asgq {g : TG} {vs : List Nat} (h : XD K te ρ d) (hg : XG K g d ρ ρ' vs) (k : SD K B u ρ' N R) : SD K B (tSeq (tAsg te g) u) ρ N R := sd_seq (M := fun r => r = ρ') (sd_asg h hg rfl) fun _ e => e ▸ k
theorem sd_setq {i : Nat} (h : XD K te ρ d) (k : SD K B u (ρ.set i (.dt d)) N R) : SD K B (tSeq (tAsg te (gName i)) u) ρ N R := sd_asgq h (xg_name i) k
theorem sd_setOq {i : Nat} (h : XO K te ρ ds) (k : SD K B u (ρ.set i (.ow ds)) N R) : SD K B (tSeq (tAsg te (gName i)) u) ρ N R := sd_seq (M := fun r => r = ρ.set i (.ow ds)) (sd_asgO h rfl) fun _ e => e ▸ k
theorem sd_ifq {b : Bool} (h : XT K tt ρ b) (h1 : b = true → SD K B (tSeq t w) ρ N R) (h2 : b = false → SD K B w ρ N R) : SD K B (tSeq (tIfS tt t tNext) w) ρ N R := fun F0 H0 F H σ D hB E n r =>
  h F0 H0 F H σ E _ fun F1 H1 g1 => by
    cases b with
    | true => exact h1 rfl F0 H0 F1 H1 σ D hB (E.grow g1) (fun F' H' σ' ρ' a e E' => n F' H' σ' ρ' a (g1.f.trans e) E') r
    | false => exact h2 rfl F0 H0 F1 H1 σ D hB (E.grow g1) (fun F' H' σ' ρ' a e E' => n F' H' σ' ρ' a (g1.f.trans e) E') r
/-- an if whose suite returns, what follows it -/
theorem sd_ifr {b : Bool} (h : XT K tt ρ b) (h1 : b = true → SD K B t ρ (fun _ => False) R) (h2 : b = false → SD K B w ρ N R) : SD K B (tSeq (tIfS tt t tNext) w) ρ N R := 
  sd_ifq h (fun hb => sd_seq (h1 hb) fun _ z => z.elim) h2
theorem sd_forq {wi : TI} {g : TG} {n : Nat} {it : Nat → PyData} (I : Nat → List Sl → Prop) (hi : XI K wi ρ n it) (h0 : I 0 ρ)
    (hs : ∀ i ρ1, i < n → I i ρ1 → ∃ ρ2 vs, XG K g (it i) ρ1 ρ2 vs ∧ SD K B t ρ2 (I (i + 1)) R) (hd : ∀ ρ', I n ρ' → SD K B u ρ' N R) : SD K B (tSeq (tFor wi g t) u) ρ N R :=
  sd_seq (M := I n) (sd_for I hi h0 hs fun _ h => h) hd
end
/-! ### defs -/
/-- the promise of a def of data: P says of which data it is called, and what it then gives -/
def spD (K : PySem.W.Frag) (n : Nat) (P : List PyData → PyData → Prop) : Sp := fun vs H Q _ => vs.length = n ∧ ∃ F ds d, Ex F H ∧ DqAll K F vs ds ∧ P ds d ∧ ∀ v F' H', Gr F H F' H' → Dq K F' v d → Q v H'
section
variable {K : PySem.W.Frag} {ρ : List Sl} {ds : List PyData} {d : PyData}
theorem xd_call {n : Nat} {P : List PyData → PyData → Prop} {E : XK} {tr : TA} (h : XA K tr ρ ds) (hl : ds.length = n) (hP : P ds d) : XD K (tCall (spD K n P) [] E tr) ρ d := fun F0 H0 F H σ E Q q =>
  h F0 H0 F H σ E _ fun vs F1 H1 g1 d1 => ⟨by rw [List.append_nil, dpa_len d1]; exact hl, F1, ds, d, g1.le, by rw [List.append_nil]; exact d1, hP, fun v F2 H2 g2 d2 => q v F2 H2 (g1.trans g2) d2⟩
theorem spD_len {n : Nat} {P : List PyData → PyData → Prop} (vs : List V) (H : Hp) (Q : VK) (E : XK) (h : spD K n P vs H Q E) : vs.length = n := h.1
theorem env_start {F H : Hp} {N : List Str} {vs : List V} (le : Ex F H) (h : DqAll K F vs ds) (hn : vs.length ≤ N.length) : Env K F H F H (L2.start N vs) (ds.map .dt ++ List.replicate (N.length - ds.length) .no) := by
  refine ⟨Gr.refl le, ?_, fun i x hx => ?_, fun i j p di dj _ hi => ?_⟩
  · unfold L2.start
    simp [dpa_len h]
  · unfold L2.start
    by_cases hi : i < vs.length
    · rw [List.getElem?_append_left (by rw [List.length_map, ← dpa_len h]; exact hi), List.getElem?_map] at hx
      obtain ⟨e, he, rfl⟩ := Option.map_eq_some_iff.mp hx
      obtain ⟨v, h1, h2⟩ := dpa_get h he
      exact ⟨some v, by rw [List.getElem?_append_left (by rw [List.length_map]; exact hi), List.getElem?_map, h1]; rfl, v, rfl, h2⟩
    · have hl := dpa_len h
      rw [List.getElem?_append_right (by rw [List.length_map, ← hl]; omega), List.length_map] at hx
      obtain ⟨h1, h2⟩ := List.getElem?_eq_some_iff.mp hx
      rw [List.getElem_replicate] at h2
      subst h2
      rw [List.length_replicate] at h1
      refine ⟨none, ?_, trivial⟩
      rw [List.getElem?_append_right (by rw [List.length_map]; omega), List.length_map, List.getElem?_replicate, if_pos (by omega)]
  · exfalso
    by_cases hi' : i < ds.length
    · rw [List.getElem?_append_left (by rw [List.length_map]; exact hi'), List.getElem?_map] at hi
      obtain ⟨e, he, z⟩ := Option.map_eq_some_iff.mp hi
      cases z
    · rw [List.getElem?_append_right (by rw [List.length_map]; omega), List.length_map] at hi
      obtain ⟨h1, h2⟩ := List.getElem?_eq_some_iff.mp hi
      rw [List.getElem_replicate] at h2
      cases h2
/-- the reading of a def's body, from its data -/
theorem body_D {t : TS} {n : Nat} {P : List PyData → PyData → Prop} {N : List Str} (hN : n ≤ N.length) {vs : List V} {H : Hp} {Q : VK} {E : XK} (h : spD K n P vs H Q E)
    (hb : ∀ ds d, ds.length = n → P ds d → SD K (fun _ _ => True) t (ds.map .dt ++ List.replicate (N.length - ds.length) .no) (fun _ => d = .none) (fun r => r = d)) : t { nx := fun _ H' => Q .non H', rt := Q } (L2.start N vs) H := by
  obtain ⟨hl, F, ds, d, le, hd, hP, q⟩ := h
  have hdl := dpa_len hd
  refine hb ds d (by omega) hP F H F H _ _ trivial (env_start le hd (by omega)) (fun F' H' σ' ρ' a _ E' => ?_) (fun F' H' v r a g dr => ?_)
  · subst a
    exact q _ F' H' E'.gr .non
  · subst a
    exact q v F' H' g dr
end
end DD

set_option Elab.async false
set_option linter.all false
set_option maxRecDepth 100000
set_option maxHeartbeats 4000000
namespace DD
open PySem PySem.Spec PyProof.Rows L2
open Evl (Ex ex_l ex_t ex_rd)
/-! ### a def that is called, with all that its callers ask -/
abbrev FnP (K : PySem.W.Frag) (x : Str) (st : Stmt) (f : Addr) (fd : FuncData) : Prop := FunD K x x (defArgs st) (defBody st) (defScope st) [] [] f fd
def Cal (Pg : Program) (w : World) (K : PySem.W.Frag) (mg : Str → Option Value) (base : Heap) (x : Str) (k n : Nat) (P : List PyData → PyData → Prop) : Prop :=
  ∃ (f : Addr) (fd : FuncData) (ps : List Str), mg x = some (.ref f) ∧ PySem.W.keepIn K (.ref f) = true ∧ Binds K fd ps [] ∧ FnOk Pg w K mg base CX0 k f fd ps (spD K n P)
theorem pe_callC {X : Cx} {x : Str} {k n : Nat} {P : List PyData → PyData → Prop} {p pos : Pos} {e : Expr} {es : List Expr} {t : TA} (C : Cal X.prog X.w X.K X.mg X.base x k n P) (hr : Room k X.A) (hg : Gl X x) (ha : PA X (e :: es) t)
    (hdb : (x == ("__debug__" : Str)) = false := by decide) (he : starEach (e :: es) X.env = (false, eval e X.env) :: starEach es X.env := by rfl) (hpl : (backTo pos (starEach es X.env)).any (·.1) = false := by rfl) :
    PE X (.Call (.Name x p) (e :: es) [] pos) (tCall (spD X.K n P) [] E0 t) := by
  obtain ⟨f, fd, ps, hm, hk, hb, F⟩ := C
  exact pe_call F hr hg hm hk hb .nil pass0 ha hdb he hpl
section
variable {K : PySem.W.Frag} {ρ : List Sl} {ta tb te : TE} {d e : PyData} {ds es : List PyData}
theorem xt_yes : XT K tYes ρ true := fun F0 H0 F H σ E Q q => q F H (Gr.refl E.le)
theorem atI_in {α : Type} {xs : List α} {i : Int} (x0 : α) (h : 0 ≤ i ∧ i < xs.length) : atI xs i = some (xs.getD i.toNat x0) := by
  have hl : i.toNat < xs.length := by omega
  unfold atI ixN
  rw [if_pos h.1, if_pos h.2]
  show xs[i.toNat]? = _
  rw [List.getD_eq_getElem?_getD, List.getElem?_eq_getElem hl]
  rfl
/-- an item of a list of like things -/
theorem xd_ixM {α : Type} {xs : List α} {f : α → PyData} {i : Int} (x0 : α) (ha : XD K ta ρ (.list (xs.map f))) (hb : XD K tb ρ (.int i)) (h : 0 ≤ i ∧ i < xs.length) : XD K (tOp (rIxL K) ta tb) ρ (f (xs.getD i.toNat x0)) := by
  refine xd_ixL ha hb ?_
  have hl : i.toNat < xs.length := by omega
  rw [atI_in (f x0) (by rw [List.length_map]; exact h)]
  rw [List.getD_eq_getElem?_getD, List.getElem?_map, List.getD_eq_getElem?_getD, List.getElem?_eq_getElem hl]
  rfl
/-- [a, b][int(test)] -/
theorem xd_pick {b : Bool} (ha : XO K ta ρ [d, e]) (hb : XD K tb ρ (.int (if b then 1 else 0))) : XD K (tOp (rIxL K) ta tb) ρ (if b then e else d) :=
  xd_ixL ha.xd hb (by cases b <;> rfl)
theorem rc_lenM {α : Type} {xs : List α} {f : α → PyData} : RDC K (fun xs H Q => ∃ x n, xs = [x] ∧ LenV K x H n ∧ Q (.int n) H) [.list (xs.map f)] (.int xs.length) := by
  have := rc_lenL (K := K) (ds := xs.map f)
  rw [List.length_map] at this
  exact this
theorem xd_ite {b : Bool} {x y : PyData} (h1 : b = true → XD K te ρ x) (h2 : b = false → XD K te ρ y) : XD K te ρ (if b then x else y) := by
  cases b
  · exact h2 rfl
  · exact h1 rfl
end
end DD

set_option Elab.async false
set_option linter.all false
set_option maxRecDepth 100000
set_option maxHeartbeats 4000000
namespace DD
open PySem PySem.Spec PyProof.Rows L2
open Evl (Ex ex_l ex_t ex_rd)
abbrev rLenD (K : PySem.W.Frag) : List V → Hp → VK → Prop := fun xs H Q => ∃ x n, xs = [x] ∧ LenV K x H n ∧ Q (.int n) H
abbrev rListD (K : PySem.W.Frag) : List V → Hp → VK → Prop := fun xs H Q => ∃ p ys, xs = [.ref p] ∧ (SqL K H p ys ∨ SqT K H p ys) ∧ ∀ l, H l = none → Q (.ref l) (upd H l (.lst ys))
abbrev rJoinD (K : PySem.W.Frag) : V → List V → Hp → VK → Prop := fun x xs H Q => ∃ a p, ∃ ys : List Str, x = .str a ∧ xs = [.ref p] ∧ (SqL K H p (ys.map V.str) ∨ SqT K H p (ys.map V.str)) ∧ (ys.map (·.length)).sum + ys.length * a.length ≤ 16777216 ∧ Q (.str (Txt.join a ys)) H
/-! isinstance -/
def tyD : PyData → String
  | .none => "NoneType"
  | .bool _ => "bool"
  | .int _ => "int"
  | .str _ => "str"
  | .list _ => "list"
  | .tuple _ => "tuple"
  | .dict _ => "dict"
theorem tyX_of {K : PySem.W.Frag} {F : Hp} {v : V} {d : PyData} (h : Dq K F v d) : TyX K F v (.type (tyD d)) := by
  cases h with
  | non => exact .base .non
  | bl b => exact .base (.bl b)
  | int i => exact .base (.int i)
  | str x => exact .base (.str x)
  | lst h _ =>
    rcases h with h | ⟨o, h⟩
    · exact .base (.lst h)
    · exact .base (.frz h)
  | tup h _ =>
    rcases h with (h | ⟨o, h⟩) | ⟨o, its, n, e, c, _⟩
    · exact .base (.tup h)
    · exact .fTuple h
    · exact .kTuple e c
section
variable {K : PySem.W.Frag} {ρ : List Sl} {ta tb te : TE} {d e : PyData} {ds es : List PyData}
def xdTy (n : String) : XK → Prop := fun _ => True
/-- isinstance(x, T), T a built-in type -/
theorem xd_isi {T T' : String} {b : Bool} (h : XD K te ρ d) (ht : tyD d = T') (hk : kitB T' T = some b) : XD K (tCB (rIsi K) (tCons te (tCons (tC (.ty T)) tNil))) ρ (.bool b) := fun F0 H0 F H σ E Q q =>
  h F0 H0 F H σ E _ fun v F1 H1 g d1 => ⟨v, .ty T, _, _, b, rfl, .ty T, tyX_of (dp_mono g.le _ _ d1), kit_ty (ht ▸ hk), q _ F1 H1 g (.bl b)⟩
def is_int : PyData → Bool
  | .int _ => true
  | .bool _ => true
  | _ => false
theorem xd_isint (h : XD K te ρ d) : XD K (tCB (rIsi K) (tCons te (tCons (tC (.ty "int")) tNil))) ρ (.bool (is_int d)) := by
  cases d
  · exact (xd_isi (T' := "NoneType") (b := false) h rfl (by decide +kernel))
  · exact (xd_isi (T' := "bool") (b := true) h rfl (by decide +kernel))
  · exact (xd_isi (T' := "int") (b := true) h rfl (by decide +kernel))
  · exact (xd_isi (T' := "str") (b := false) h rfl (by decide +kernel))
  · exact (xd_isi (T' := "list") (b := false) h rfl (by decide +kernel))
  · exact (xd_isi (T' := "tuple") (b := false) h rfl (by decide +kernel))
  · exact (xd_isi (T' := "dict") (b := false) h rfl (by decide +kernel))
def is_bool : PyData → Bool
  | .bool _ => true
  | _ => false
theorem xd_isbool (h : XD K te ρ d) : XD K (tCB (rIsi K) (tCons te (tCons (tC (.ty "bool")) tNil))) ρ (.bool (is_bool d)) := by
  cases d
  · exact (xd_isi (T' := "NoneType") (b := false) h rfl (by decide +kernel))
  · exact (xd_isi (T' := "bool") (b := true) h rfl (by decide +kernel))
  · exact (xd_isi (T' := "int") (b := false) h rfl (by decide +kernel))
  · exact (xd_isi (T' := "str") (b := false) h rfl (by decide +kernel))
  · exact (xd_isi (T' := "list") (b := false) h rfl (by decide +kernel))
  · exact (xd_isi (T' := "tuple") (b := false) h rfl (by decide +kernel))
  · exact (xd_isi (T' := "dict") (b := false) h rfl (by decide +kernel))
def is_str : PyData → Bool
  | .str _ => true
  | _ => false
theorem xd_isstr (h : XD K te ρ d) : XD K (tCB (rIsi K) (tCons te (tCons (tC (.ty "str")) tNil))) ρ (.bool (is_str d)) := by
  cases d
  · exact (xd_isi (T' := "NoneType") (b := false) h rfl (by decide +kernel))
  · exact (xd_isi (T' := "bool") (b := false) h rfl (by decide +kernel))
  · exact (xd_isi (T' := "int") (b := false) h rfl (by decide +kernel))
  · exact (xd_isi (T' := "str") (b := true) h rfl (by decide +kernel))
  · exact (xd_isi (T' := "list") (b := false) h rfl (by decide +kernel))
  · exact (xd_isi (T' := "tuple") (b := false) h rfl (by decide +kernel))
  · exact (xd_isi (T' := "dict") (b := false) h rfl (by decide +kernel))
def is_tuple : PyData → Bool
  | .tuple _ => true
  | _ => false
theorem xd_istuple (h : XD K te ρ d) : XD K (tCB (rIsi K) (tCons te (tCons (tC (.ty "tuple")) tNil))) ρ (.bool (is_tuple d)) := by
  cases d
  · exact (xd_isi (T' := "NoneType") (b := false) h rfl (by decide +kernel))
  · exact (xd_isi (T' := "bool") (b := false) h rfl (by decide +kernel))
  · exact (xd_isi (T' := "int") (b := false) h rfl (by decide +kernel))
  · exact (xd_isi (T' := "str") (b := false) h rfl (by decide +kernel))
  · exact (xd_isi (T' := "list") (b := false) h rfl (by decide +kernel))
  · exact (xd_isi (T' := "tuple") (b := true) h rfl (by decide +kernel))
  · exact (xd_isi (T' := "dict") (b := false) h rfl (by decide +kernel))
def is_list : PyData → Bool
  | .list _ => true
  | _ => false
theorem xd_islist (h : XD K te ρ d) : XD K (tCB (rIsi K) (tCons te (tCons (tC (.ty "list")) tNil))) ρ (.bool (is_list d)) := by
  cases d
  · exact (xd_isi (T' := "NoneType") (b := false) h rfl (by decide +kernel))
  · exact (xd_isi (T' := "bool") (b := false) h rfl (by decide +kernel))
  · exact (xd_isi (T' := "int") (b := false) h rfl (by decide +kernel))
  · exact (xd_isi (T' := "str") (b := false) h rfl (by decide +kernel))
  · exact (xd_isi (T' := "list") (b := true) h rfl (by decide +kernel))
  · exact (xd_isi (T' := "tuple") (b := false) h rfl (by decide +kernel))
  · exact (xd_isi (T' := "dict") (b := false) h rfl (by decide +kernel))
/-- x is True, x is False, x is not .. -/
theorem xd_isB {a b : Bool} (ha : XD K ta ρ (.bool a)) (hb : XD K tb ρ (.bool b)) : XD K (tOp (fun x y H Q => ∃ a b, x = .bl a ∧ y = .bl b ∧ Q (.bl (decide (a = b))) H) ta tb) ρ (.bool (decide (a = b))) :=
  xd_op ha hb fun F H x y le hx hy Q q => ⟨a, b, dp_bl hx, dp_bl hy, q _ F H (Gr.refl le) (.bl _)⟩
/-- list(xs) -/
theorem xo_list (h : XD K te ρ (.list ds)) : XO K (tCB (fun xs H Q => ∃ p ys, xs = [.ref p] ∧ (SqL K H p ys ∨ SqT K H p ys) ∧ ∀ l, H l = none → Q (.ref l) (upd H l (.lst ys))) (tCons te tNil)) ρ ds := fun F0 H0 F H σ E Q q =>
  h F0 H0 F H σ E _ fun v F1 H1 g d1 => by
    obtain ⟨p, xs, rfl, b, c⟩ := dp_lst d1
    exact ⟨p, xs, rfl, .inl (ex_l g.le b), fun l hl => q l xs F1 _ (g.trans (Gr.newH g.le hl _)) (Evl.fresh_back g.h hl) (free_of g.le hl) upd_same c⟩
theorem strs_of {F : Hp} : ∀ {xs : List V} {ys : List Str}, DqAll K F xs (ys.map .str) → xs = ys.map V.str
  | _, [], h => by cases h; rfl
  | _, y :: ys, h => by
    cases h with
    | cons a b => rw [dp_str a, List.map_cons, strs_of b]
/-- sep.join(xs) of a list of texts -/
theorem xd_join {a : Str} {ys : List Str} (h1 : XD K ta ρ (.str a)) (h2 : XD K te ρ (.list (ys.map .str))) (hz : (ys.map (·.length)).sum + ys.length * a.length ≤ 16777216) :
    XD K (tBM K "str" (fun x xs H Q => ∃ a p, ∃ ys : List Str, x = .str a ∧ xs = [.ref p] ∧ (SqL K H p (ys.map V.str) ∨ SqT K H p (ys.map V.str)) ∧ (ys.map (·.length)).sum + ys.length * a.length ≤ 16777216 ∧ Q (.str (Txt.join a ys)) H) ta (tCons te tNil)) ρ (.str (Txt.join a ys)) := fun F0 H0 F H σ E Q q =>
  h1 F0 H0 F H σ E _ fun v F1 H1 g d1 => by
    rw [dp_str d1]
    refine ⟨rfl, h2 F0 H0 F1 H1 σ (E.grow g) _ fun v2 F2 H2 g2 d2 => ?_⟩
    obtain ⟨p, xs, rfl, b, c⟩ := dp_lst d2
    rw [strs_of c] at b
    exact ⟨a, p, ys, rfl, rfl, .inl (ex_l g2.le b), hz, q _ F2 H2 (g.trans g2) (.str _)⟩
/-! what a comprehension without a test makes -/
theorem madeD_map {n : Nat} {r : Nat → PyData} : madeD n (fun _ => true) r = (List.range n).map r := by
  unfold madeD
  rw [List.filter_eq_self.mpr (fun _ _ => rfl)]
theorem map_range_get {α : Type} (xs : List α) (x0 : α) {β : Type} (f : α → β) : (List.range xs.length).map (fun i => f (xs.getD i x0)) = xs.map f := by
  apply List.ext_getElem
  · simp
  · intro i h1 h2
    simp only [List.length_map, List.length_range] at h1
    simp [List.getD_eq_getElem?_getD, List.getElem?_eq_getElem h1]
/-- [te for x in xs], xs a list of like things -/
theorem xo_lcM {α β : Type} {tl : TE} {j : Nat} {xs : List α} {f : α → PyData} {g : α → β} {h : β → PyData} (x0 : α) (hi : XD K tl ρ (.list (xs.map f))) (hn : xs.length ≤ 50000)
    (he : ∀ x, x ∈ xs → XD K te ((wipeS ρ [j]).set j (.dt (f x))) (h (g x))) : XO K (tLc (iList K tl) (gName j) tYes te [j]) ρ ((xs.map g).map h) := by
  have key := xo_lc (te := te) (vs := [j]) (f := fun _ => true) (r := fun i => h (g (xs.getD i x0))) (ρt := fun i => (wipeS ρ [j]).set j (.dt (f (xs.getD i x0)))) (xi_list hi) (by rw [List.length_map]; exact hn)
    (fun i hlt => by
      rw [List.length_map] at hlt
      have e : (xs.map f).getD i .none = f (xs.getD i x0) := by
        simp [List.getD_eq_getElem?_getD, List.getElem?_eq_getElem hlt]
      rw [e]
      exact xg_name j) (fun i hlt => xt_yes) (fun i hlt _ => by
      rw [List.length_map] at hlt
      refine he _ ?_
      rw [List.getD_eq_getElem?_getD, List.getElem?_eq_getElem hlt]
      exact List.getElem_mem hlt)
  refine key.is ?_
  rw [madeD_map, List.length_map, ← map_range_get xs x0 g, List.map_map]
  rfl
/-- two targets -/
theorem xo_lcM2 {α β : Type} {tl : TE} {j k : Nat} {xs : List α} {f1 f2 : α → PyData} {g : α → β} {h : β → PyData} (x0 : α) (hi : XD K tl ρ (.list (xs.map fun x => .tuple [f1 x, f2 x]))) (hn : xs.length ≤ 50000)
    (he : ∀ x, x ∈ xs → XD K te (((wipeS ρ [j, k]).set j (.dt (f1 x))).set k (.dt (f2 x))) (h (g x))) : XO K (tLc (iList K tl) (gTup K 2 (gCons (gName j) (gCons (gName k) gNil))) tYes te [j, k]) ρ ((xs.map g).map h) := by
  have key := xo_lc (te := te) (vs := [j, k]) (f := fun _ => true) (r := fun i => h (g (xs.getD i x0))) (ρt := fun i => ((wipeS ρ [j, k]).set j (.dt (f1 (xs.getD i x0)))).set k (.dt (f2 (xs.getD i x0)))) (xi_list hi) (by rw [List.length_map]; exact hn)
    (fun i hlt => by
      rw [List.length_map] at hlt
      have e : (xs.map fun x => PyData.tuple [f1 x, f2 x]).getD i .none = .tuple [f1 (xs.getD i x0), f2 (xs.getD i x0)] := by
        simp [List.getD_eq_getElem?_getD, List.getElem?_eq_getElem hlt]
      rw [e]
      exact xg_tup (n := 2) (xgs_cons (xg_name j) (xgs_cons (xg_name k) xgs_nil)) rfl) (fun i hlt => xt_yes) (fun i hlt _ => by
      rw [List.length_map] at hlt
      refine he _ ?_
      rw [List.getD_eq_getElem?_getD, List.getElem?_eq_getElem hlt]
      exact List.getElem_mem hlt)
  refine key.is ?_
  rw [madeD_map, List.length_map, ← map_range_get xs x0 g, List.map_map]
  rfl
/-- [te for i in range(n)] -/
theorem xo_lcR {β : Type} {tr : TA} {j : Nat} {n : Int} {g : Nat → β} {h : β → PyData} (hi : XA K tr ρ [.int n]) (hn : -100000 ≤ n ∧ n ≤ 50000)
    (he : ∀ i : Nat, (i : Int) < n → XD K te ((wipeS ρ [j]).set j (.dt (.int i))) (h (g i))) : XO K (tLc (iRng1 tr) (gName j) tYes te [j]) ρ (((List.range n.toNat).map g).map h) := by
  have key := xo_lc (te := te) (vs := [j]) (f := fun _ => true) (r := fun i => h (g i)) (ρt := fun i => (wipeS ρ [j]).set j (.dt (.int i))) (xi_rng1 hi ⟨hn.1, by omega⟩) (by omega)
    (fun i hlt => xg_name j) (fun i hlt => xt_yes) (fun i hlt _ => he i (by omega))
  refine key.is ?_
  rw [madeD_map, List.map_map]
  rfl
theorem rc_allM {bs : List Bool} {Z : List PyData} (hz : Z = bs.map .bool) : RDC K (rAll K) [.list Z] (.bool (bs.all id)) := hz ▸ rc_all
theorem xd_pickI {b : Bool} {x y : Int} (ha : XO K ta ρ [.int x, .int y]) (hb : XD K tb ρ (.int (if b then 1 else 0))) : XD K (tOp (rIxL K) ta tb) ρ (.int (if b then y else x)) :=
  (xd_pick ha hb).is (by cases b <;> rfl)
theorem set_same {i : Nat} {x : Sl} (h : ρ[i]? = some x) : ρ.set i x = ρ := by
  apply List.ext_getElem?
  intro k
  by_cases hk : i = k
  · subst hk
    rw [List.getElem?_set_self (List.getElem?_eq_some_iff.mp h).1, h]
  · rw [List.getElem?_set_ne hk]
/-- if test: x = e -/
theorem sd_ifset {i : Nat} {tt : TT} {u : TS} {b : Bool} {d0 d1 : PyData} {N : List Sl → Prop} {R : PyData → Prop} {B : Hp → Hp → Prop} (h : XT K tt ρ b) (h0 : ρ[i]? = some (.dt d0)) (h1 : b = true → XD K te ρ d1)
    (k : SD K B u (ρ.set i (.dt (if b then d1 else d0))) N R) : SD K B (tSeq (tIfS tt (tAsg te (gName i)) tNext) u) ρ N R := by
  refine sd_ifq h (fun hb => sd_setq (h1 hb) ?_) (fun hb => ?_)
  · rw [hb] at k; exact k
  · rw [hb] at k
    have e : ρ.set i (.dt (if false = true then d1 else d0)) = ρ := set_same h0
    rw [e] at k
    exact k
theorem sd_ifsetI {i : Nat} {tt : TT} {u : TS} {b : Bool} {x0 x1 : Int} {N : List Sl → Prop} {R : PyData → Prop} {B : Hp → Hp → Prop} (h : XT K tt ρ b) (h0 : ρ[i]? = some (.dt (.int x0))) (h1 : b = true → XD K te ρ (.int x1))
    (k : SD K B u (ρ.set i (.dt (.int (if b then x1 else x0)))) N R) : SD K B (tSeq (tIfS tt (tAsg te (gName i)) tNext) u) ρ N R :=
  sd_ifset h h0 h1 (by
    have e : (if b then PyData.int x1 else PyData.int x0) = PyData.int (if b then x1 else x0) := by cases b <;> rfl
    rw [e]; exact k)
/-! the script, or another list of the claim's: told by its values -/
theorem Env.seq {F0 H0 F H : Hp} {σ : L2.St} (E : Env K F0 H0 F H σ ρ) {i : Nat} {xs : List V} (h : ρ[i]? = some (.sq xs)) : ∃ a, σ[i]? = some (some (.ref a)) ∧ SqL K F a xs := by
  obtain ⟨s, h1, a, rfl, h2⟩ := E.ok i _ h
  exact ⟨a, h1, h2⟩
theorem xd_lenQ {i : Nat} {xs : List V} (h : ρ[i]? = some (.sq xs)) : XD K (tCB (rLenD K) (tCons (tVar i) tNil)) ρ (.int xs.length) := fun F0 H0 F H σ E Q q => by
  obtain ⟨a, h1, h2⟩ := E.seq h
  exact ⟨.ref a, h1, .ref a, xs.length, rfl, .inl ⟨xs, ex_l E.le h2, rfl⟩, q _ F H (Gr.refl E.le) (.int _)⟩
theorem xd_ixQ {i : Nat} {ns : List Int} {k : Int} (h : ρ[i]? = some (.sq (ns.map V.int))) (hb : XD K tb ρ (.int k)) (hk : 0 ≤ k ∧ k < ns.length) : XD K (tOp (rIxL K) (tVar i) tb) ρ (.int (ns.getD k.toNat 0)) := fun F0 H0 F H σ E Q q => by
  obtain ⟨a, h1, h2⟩ := E.seq h
  refine ⟨.ref a, h1, hb F0 H0 F H σ E _ fun v F1 H1 g d1 => ⟨a, ns.map V.int, k, .int (ns.getD k.toNat 0), rfl, dp_int d1, ex_l g.h (ex_l E.le h2), ?_, q _ F1 H1 g (.int _)⟩⟩
  have hl : k.toNat < ns.length := by omega
  rw [atI_in (V.int 0) (by rw [List.length_map]; exact hk)]
  simp [List.getD_eq_getElem?_getD, List.getElem?_eq_getElem hl]
def spQ (K : PySem.W.Frag) (P : List Int → PyData → Prop) : Sp := fun vs H Q _ => vs.length = 1 ∧ ∃ F a ns d, vs = [.ref a] ∧ Ex F H ∧ SqL K F a (ns.map V.int) ∧ P ns d ∧ ∀ v F' H', Gr F H F' H' → Dq K F' v d → Q v H'
theorem xd_callQ {i : Nat} {ns : List Int} {P : List Int → PyData → Prop} (h : ρ[i]? = some (.sq (ns.map V.int))) (hP : P ns d) : XD K (tCall (spQ K P) [] E0 (tCons (tVar i) tNil)) ρ d := fun F0 H0 F H σ E Q q => by
  obtain ⟨a, h1, h2⟩ := E.seq h
  exact ⟨.ref a, h1, rfl, F, a, ns, d, rfl, E.le, h2, hP, q⟩
theorem env_seq {F H : Hp} {N : List Str} {a : Addr} {xs : List V} (le : Ex F H) (h : SqL K F a xs) (hn : 1 ≤ N.length) : Env K F H F H (L2.start N [.ref a]) (.sq xs :: List.replicate (N.length - 1) .no) := by
  refine ⟨Gr.refl le, ?_, fun i x hx => ?_, fun i j p di dj _ hi => ?_⟩
  · unfold L2.start; simp
  · unfold L2.start
    cases i with
    | zero => cases hx; exact ⟨some (.ref a), rfl, a, rfl, h⟩
    | succ i =>
      rw [List.getElem?_cons_succ] at hx
      obtain ⟨h1, h2⟩ := List.getElem?_eq_some_iff.mp hx
      rw [List.getElem_replicate] at h2
      subst h2
      rw [List.length_replicate] at h1
      refine ⟨none, ?_, trivial⟩
      show (some (V.ref a) :: List.replicate (N.length - 1) none)[i + 1]? = _
      rw [List.getElem?_cons_succ, List.getElem?_replicate, if_pos h1]
  · exfalso
    cases i with
    | zero => cases hi
    | succ i =>
      rw [List.getElem?_cons_succ] at hi
      obtain ⟨_, h2⟩ := List.getElem?_eq_some_iff.mp hi
      rw [List.getElem_replicate] at h2
      cases h2
theorem body_Q {t : TS} {P : List Int → PyData → Prop} {N : List Str} (hN : 1 ≤ N.length) {vs : List V} {H : Hp} {Q : VK} {E : XK} (h : spQ K P vs H Q E)
    (hb : ∀ ns d, P ns d → SD K (fun _ _ => True) t (.sq (ns.map V.int) :: List.replicate (N.length - 1) .no) (fun _ => False) (fun r => r = d)) : t { nx := fun _ H' => Q .non H', rt := Q } (L2.start N vs) H := by
  obtain ⟨_, F, a, ns, d, rfl, le, hs, hP, q⟩ := h
  refine hb ns d hP F H F H _ _ trivial (env_seq le hs hN) (fun _ _ _ _ z _ _ => z.elim) (fun F' H' v r z g dr => ?_)
  subst z
  exact q v F' H' g dr
end
end DD

set_option Elab.async false
set_option linter.all false
set_option maxRecDepth 100000
set_option maxHeartbeats 4000000
namespace DD
open PySem PySem.Spec PyProof.Rows L2
open Evl (Ex ex_l ex_t ex_rd)
/-! a chain of three comparisons -/
def tCh3 (r1 r2 r3 : R2) (ta tb tc td : TE) : TE := fun σ H Q => ta σ H fun x H1 => tb σ H1 fun y H2 => r1 x y H2 fun z H3 => ∃ k, z = .bl k ∧
  (if k = true then tc σ H3 fun v H4 => r2 y v H4 fun z' H5 => ∃ k', z' = .bl k' ∧ (if k' = true then td σ H5 fun u H6 => r3 v u H6 Q else Q (.bl false) H5) else Q (.bl false) H3)
theorem pe_ch3 {X : Cx} {a b c d : Expr} {pos : Pos} {ta tb tc td : TE} {o1 o2 o3 : CmpOp} {r1 r2 r3 : R2} (p1 : OpR X (compareOp o1) r1) (p2 : OpR X (compareOp o2) r2) (p3 : OpR X (compareOp o3) r3)
    (ha : PE X a ta) (hb : PE X b tb) (hc : PE X c tc) (hd : PE X d td) (hm : lastMarks [o1, o2, o3] [b, c, d] = false := by with_unfolding_all rfl) : PE X (.Compare a [o1, o2, o3] [b, c, d] pos) (tCh3 r1 r2 r3 ta tb tc td) := by
  constructor
  intro pins s σ H Q I h
  refine Compare_chain (thn (ha.run pins s σ H _ I h) fun va sa ⟨xa, Ha, Ia, ra, qa⟩ => ?_) hm
  refine chain_link (thn (hb.run pins sa σ Ha _ Ia qa) fun vb sb ⟨xb, Hb, Ib, rb, qb⟩ => thn (p1 pins sb σ Hb xa xb va vb _ Ib ra rb qb) fun e1 s1 ⟨z1, G1, J1, t1, k1, w1, q1⟩ => ?_)
  subst w1
  cases t1
  apply wpAny_truthy_bool
  cases k1 with
  | false => exact ite_ff ⟨.bl false, G1, J1, rfl, q1⟩
  | true =>
    refine ite_tt (chain_link (thn (hc.run pins s1 σ G1 _ J1 q1) fun vc sc ⟨xc, Hc, Ic, rc, qc⟩ => thn (p2 pins sc σ Hc xb xc vb vc _ Ic rb rc qc) fun e2 s2 ⟨z2, G2, J2, t2, k2, w2, q2⟩ => ?_))
    subst w2
    cases t2
    apply wpAny_truthy_bool
    cases k2 with
    | false => exact ite_ff ⟨.bl false, G2, J2, rfl, q2⟩
    | true => exact ite_tt (chain_last (thn (hd.run pins s2 σ G2 _ J2 q2) fun vd sd ⟨xd, Hd, Id, rd, qd⟩ => p3 pins sd σ Hd xc xd vc vd Q Id rc rd qd))
section
variable {K : PySem.W.Frag} {ρ : List Sl} {ta tb tc td te : TE} {d e : PyData} {ds es : List PyData}
theorem xd_ch3 {p1 p2 p3 : Int → Int → Bool} {i j k l : Int} (ha : XD K ta ρ (.int i)) (hb : XD K tb ρ (.int j)) (hc : XD K tc ρ (.int k)) (hd : XD K td ρ (.int l)) :
    XD K (tCh3 (rI0 fun i j => .bl (p1 i j)) (rI0 fun i j => .bl (p2 i j)) (rI0 fun i j => .bl (p3 i j)) ta tb tc td) ρ (.bool (p1 i j && p2 j k && p3 k l)) := fun F0 H0 F H σ E Q q =>
  ha F0 H0 F H σ E _ fun x F1 H1 g1 d1 => hb F0 H0 F1 H1 σ (E.grow g1) _ fun y F2 H2 g2 d2 => ⟨i, j, dp_int d1, dp_int d2, p1 i j, rfl, by
    cases h1 : p1 i j with
    | false => exact q _ F2 H2 (g1.trans g2) (by rw [h1]; exact .bl _)
    | true =>
      refine hc F0 H0 F2 H2 σ ((E.grow g1).grow g2) _ fun z F3 H3 g3 d3 => ⟨j, k, dp_int d2, dp_int d3, p2 j k, rfl, ?_⟩
      cases h2 : p2 j k with
      | false => exact q _ F3 H3 ((g1.trans g2).trans g3) (by rw [h1, h2]; exact .bl _)
      | true => exact hd F0 H0 F3 H3 σ (((E.grow g1).grow g2).grow g3) _ fun u F4 H4 g4 d4 => ⟨k, l, dp_int d3, dp_int d4, q _ F4 H4 (((g1.trans g2).trans g3).trans g4) (by rw [h1, h2]; exact .bl _)⟩⟩
end
/-! texts glued -/
def catAll : List Str → Str
  | [] => Str.empty
  | x :: xs => x ++ catAll xs
theorem app_cps (x y : Str) : (x ++ y).cps = x.cps ++ y.cps := rfl
theorem app_assoc (x y z : Str) : (x ++ y) ++ z = x ++ (y ++ z) := by
  show (⟨(x ++ y).cps ++ z.cps⟩ : Str) = ⟨x.cps ++ (y ++ z).cps⟩
  rw [app_cps, app_cps, Array.append_assoc]
theorem empty_app (x : Str) : Str.empty ++ x = x := by
  show (⟨_⟩ : Str) = _
  obtain ⟨c⟩ := x
  show (⟨#[] ++ c⟩ : Str) = _
  rw [Array.empty_append]
theorem app_empty (x : Str) : x ++ Str.empty = x := by
  show (⟨_⟩ : Str) = _
  obtain ⟨c⟩ := x
  show (⟨c ++ #[]⟩ : Str) = _
  rw [Array.append_empty]
theorem len_app (x y : Str) : (x ++ y).length = x.length + y.length := by
  show (x ++ y).cps.size = _
  rw [app_cps, Array.size_append]
  rfl
theorem catAll_fold (xs : List Str) : ∀ acc : Array Nat, xs.foldl (fun acc p => acc ++ (Str.empty).cps ++ p.cps) acc = acc ++ (catAll xs).cps := by
  induction xs with
  | nil => intro acc; show acc = acc ++ #[]; rw [Array.append_empty]
  | cons x xs ih =>
    intro acc
    rw [List.foldl_cons, ih]
    show acc ++ #[] ++ x.cps ++ (catAll xs).cps = acc ++ (x.cps ++ (catAll xs).cps)
    rw [Array.append_empty, Array.append_assoc]
theorem join_cat (xs : List Str) : Txt.join Str.empty xs = catAll xs := by
  cases xs with
  | nil => rfl
  | cons x xs =>
    show (⟨(xs.foldl (fun acc p => acc ++ (Str.empty).cps ++ p.cps) x.cps)⟩ : Str) = _
    rw [catAll_fold]
    rfl
theorem catAll_len (n : Nat) : ∀ xs : List Str, (∀ x ∈ xs, x.length ≤ n) → (catAll xs).length ≤ xs.length * n
  | [], _ => Nat.le_of_eq (by rw [List.length_nil, Nat.zero_mul]; rfl)
  | x :: xs, h => by
    show (x ++ catAll xs).length ≤ _
    have h1 := h x List.mem_cons_self
    have h2 := catAll_len n xs fun y hy => h y (List.mem_cons_of_mem _ hy)
    rw [len_app, List.length_cons, Nat.succ_mul]
    omega
theorem sum_le (n : Nat) : ∀ xs : List Str, (∀ x ∈ xs, x.length ≤ n) → (xs.map (·.length)).sum ≤ xs.length * n
  | [], _ => by simp
  | x :: xs, h => by
    have h1 := h x List.mem_cons_self
    have h2 := sum_le n xs fun y hy => h y (List.mem_cons_of_mem _ hy)
    rw [List.map_cons, List.sum_cons, List.length_cons, Nat.succ_mul]
    omega
/-- ''.join(xs) -/
theorem xd_join0 {K : PySem.W.Frag} {ρ : List Sl} {ta te : TE} {ys : List Str} (n : Nat) (h1 : XD K ta ρ (.str Str.empty)) (h2 : XD K te ρ (.list (ys.map .str))) (hy : ∀ y ∈ ys, y.length ≤ n) (hz : ys.length * n ≤ 16777216) :
    XD K (tBM K "str" (rJoinD K) ta (tCons te tNil)) ρ (.str (catAll ys)) :=
  (xd_join h1 h2 (by
    have := sum_le n ys hy
    show (ys.map (·.length)).sum + ys.length * 0 ≤ 16777216
    omega)).is (by rw [join_cat])
end DD

set_option Elab.async false
set_option linter.all false
set_option maxRecDepth 100000
set_option maxHeartbeats 4000000
namespace DD
open PySem PySem.Spec PyProof.Rows L2
open Evl (Ex ex_l ex_t ex_rd)
/-! ### the law's own def, called by the claim alone: nothing is being shown there, so repr is at hand -/
/-- what a def does where the claim calls it -/
def AtTop (Pg : Program) (w : World) (K : PySem.W.Frag) (mg : Str → Option Value) (g : Heap) (f : Addr) (fd : FuncData) (x : Str) (sp : Sp) : Prop :=
  ∀ (s : Shared) (H : Hp) (u : Value) (v : V) (Q : VK), Env0 Pg w K mg g callerA [] s H → BindsTo s fd ⟨[u], []⟩ [(x, u)] → RelV v u → sp [v] H Q E0 →
    codeAny (model Pg w) callerA (.call (.ref f) ⟨[u], []⟩) (CR CX0 [] Pg w H s Q E0) s
theorem atTop_of {Pg : Program} {w : World} {K : PySem.W.Frag} {mg : Str → Option Value} {g : Heap} {x nm : Str} {st : Stmt} {f : Addr} {fd : FuncData} {N : List Str} {sp : Sp} {k : Nat} (F : FnP K nm st f fd) (S : FnScope N [x] (defScope st)) (room : Room (k + 1) callerA)
    (body : ∀ (cdv : Value) (s : Shared) (H : Hp) (vs : List V) (Q : VK), Room k (callerA.deeper (envOfC nm (defScope st) s.heap.objs.size f cdv)) → sp vs H Q E0 →
      ∃ t, PSs (cxOf CX0 Pg w K mg g N nm (defScope st) f cdv callerA [] s H E0) (defBody st) t ∧ t { nx := fun _ H' => Q .non H', rt := Q } (L2.start N vs) H) : AtTop Pg w K mg g f fd x sp := by
  intro s H u v Q e0 hb rv hsp
  obtain ⟨oc, od, dV, kV, doc, pm, an, cdv, ct, osl, rfl, lk, hcd, _, _⟩ := F.ex
  have kin := e0.mod.kin.keeps fun b o z => (e0.bs b o z).1
  have nolim := e0.mod.nolimit.keeps fun b o z => (e0.bs b o z).1
  have kinds : ∀ y ∈ [(x, u)], (defScope st).names.lookup y.1 = some .local ∨ ((defScope st).names.lookup y.1 = some .cell ∧ ((cellsFrom (s.heap.objs.size + 1) (defScope st).names []).lookup y.1).isSome = true) := fun y hy => by
    have hy' : y = (x, u) := by simpa using hy
    rw [hy']
    exact (S.par x (by simp)).imp id fun z => ⟨z, PySem.W.cellsFrom_some _ _ _ (.inl z)⟩
  refine codeAny_call_function room.depth (kin _ _ lk) rfl S.co S.gen rfl (PySem.W.codeRec_of kin hcd) (hb _ _ _ _ (wpAny_newFunctionEnv_cells S.kind kinds fun env he s1 y => ?_))
  subst he
  refine ⟨nolim.keeps y.toInCall.keep, codeAny_func ?_⟩
  obtain ⟨t, ht, ok⟩ := body cdv s H [v] Q (room.deeper _) hsp
  have J0 := inv_start (CX := CX0) (E := E0) (us := [u]) (vs := [v]) S room.hd e0 rfl (.cons rv .nil) y
  refine wpAny_mono (ht.run [] s1 _ H _ J0 ok) (fun fl s' z => ?_) fun _ _ z => z
  cases fl with
  | ret r =>
    obtain ⟨a, σ', H', J, ra, q⟩ := z
    exact ⟨a, H', J.os, J.bare, J.base, J.hok, ra, q⟩
  | next =>
    obtain ⟨σ', H', J, q⟩ := z
    exact ⟨.non, H', J.os, J.bare, J.base, J.hok, rfl, q⟩
  | brk => obtain ⟨_, _, _, q⟩ := z; exact q.elim
  | cont => obtain ⟨_, _, _, q⟩ := z; exact q.elim
/-- the script as the law finds it: locked, or an object of the module -/
theorem top_call {Pg : Program} {w : World} {K : PySem.W.Frag} {mg mb : Str → Option Value} {f a : Addr} {fd : FuncData} {x : Str} {sp : Sp} {s : Shared} {us : List Value} {ns : List Int}
    (kin : K.In s.heap) (ng : s.heap.Ns mainGlobals mg) (nb : s.heap.Ns builtinsNs mb) (bb : ∀ y : Str, y ≠ "__name__" → mb y = bootBuiltins y) (nl : s.heap.NoLimit) (gens : s.gens = #[])
    (ha : s.heap.get? a = some { cls := .type "list", data := .seq us.toArray }) (hi : IntsAre us ns) (hl : ns.length ≤ sizeLine) (C : ∀ g : Heap, K.In g → g.Ns mainGlobals mg → AtTop Pg w K mg g f fd x sp) (hb : BindsTo s fd ⟨[.ref a], []⟩ [(x, .ref a)])
    (hsp : ∀ H : Hp, SqL K H a (ns.map V.int) → sp [.ref a] H (fun v _ => v = .bl true) E0) :
    codeAny (model Pg w) callerA (.call (.ref f) ⟨[.ref a], []⟩) (fun r s' => r = .ok (.ret (.bool true)) ∧ OldK s.heap s'.heap ∧ s'.os = s.os ∧ AllBare s'.gens) s := by
  have rel := vals_ints hi
  have key : ∀ H : Hp, (∀ b, H b = none ∨ (b = a ∧ ∃ o xs, H b = some (.frz o (.lst xs)))) → SqL K H a (ns.map V.int) → HOk Pg w H s.heap → (H a ≠ none → K.lookup a = none) →
      codeAny (model Pg w) callerA (.call (.ref f) ⟨[.ref a], []⟩) (fun r s' => r = .ok (.ret (.bool true)) ∧ OldK s.heap s'.heap ∧ s'.os = s.os ∧ AllBare s'.gens) s := by
    intro H only sq ok apart
    have keepD : ∀ {b : Addr} {m : Str → Option Value}, s.heap.Ns b m → (hidT s.heap H).Ns b m := fun {b m} n => by
      obtain ⟨o, es, ep, e, d, r⟩ := n
      refine ⟨o, es, ep, hidT_get e ?_, d, r⟩
      rcases only b with z | ⟨rfl, _⟩
      · exact z
      · rw [ha] at e
        cases e
        cases d
    have keepK : K.In (hidT s.heap H) := fun b o e => by
      refine hidT_get (kin b o e) ?_
      rcases only b with z | ⟨rfl, o', xs, z⟩
      · exact z
      · rw [apart (by rw [z]; exact nofun)] at e
        cases e
    have e0 : Env0 Pg w K mg (hidT s.heap H) callerA [] s H := by
      refine ⟨rfl, ⟨keepK, keepD ng, ⟨mb, keepD nb, bb⟩, ?_⟩, fun b o e => of_hidT e, Nat.le_of_eq (hidT_size _ _), trivial, fun b z => ?_, ok, .of_eq gens⟩
      · obtain ⟨mc, z1, z2⟩ := nl
        exact ⟨mc, keepD z1, z2⟩
      · cases z
    refine codeAny_mono (C _ keepK (keepD ng) s H (.ref a) (.ref a) _ e0 hb rfl (hsp H sq)) fun r s' z => ?_
    match r, z with
    | .ok (.ret u), ⟨v, H', os, bare, un, ok', rv, q⟩ =>
      cases (show v = .bl true from q)
      cases (show u = Value.bool true from rv)
      refine ⟨rfl, OldK.of_keep fun b o e => ?_, os, bare⟩
      rcases only b with z | ⟨rfl, o', xs, z⟩
      · exact un.keep b o e z (fun y => by cases y) (fun y => by cases y)
      · have p1 := (ok b _ z).1
        have p2 := (ok' b _ (un.frzs b o' _ z)).1
        rw [e] at p1
        cases p1
        exact p2
  cases hk : K.lookup a with
  | some o =>
    have e := kin a o hk
    rw [ha] at e
    cases e
    exact key (fun _ => none) (fun _ => .inl rfl) (.inr ⟨_, us.toArray, _, hk, rfl, rfl, rfl, by rw [List.size_toArray, hi.length]; exact hl, by simpa using rel⟩) (fun b o z => by cases z) fun z => absurd rfl z
  | none =>
    have at_a : upd (fun _ => none) a (.frz { cls := .type "list", data := .seq us.toArray } (.lst (ns.map V.int))) a = some (.frz _ _) := upd_same
    refine key (upd (fun _ => none) a (.frz { cls := .type "list", data := .seq us.toArray } (.lst (ns.map V.int)))) (fun b => ?_) (.inl (.inr ⟨_, at_a⟩)) (fun b o z => ?_) fun _ => hk
    · by_cases q : b = a
      · subst q; exact .inr ⟨rfl, _, _, at_a⟩
      · exact .inl (upd_ne q)
    · by_cases q : b = a
      · subst q
        rw [upd_same] at z
        cases z
        exact ⟨ha, by rw [List.length_map]; exact hl, us, _, rel, ha⟩
      · rw [upd_ne q] at z
        cases z
end DD

set_option Elab.async false
set_option linter.all false
set_option maxRecDepth 100000
set_option maxHeartbeats 4000000
namespace DD
open PySem PySem.Spec PyProof.Rows L2
open Evl (Ex ex_l ex_t ex_rd)
/-! ### repr of data -/
def rReprD (K : PySem.W.Frag) : List V → Hp → VK → Prop := fun xs H Q => ∃ a d, xs = [.ref a] ∧ Dp K H (.ref a) d ∧ d.showable = true ∧ d.hasDict = false ∧ d.depth ≤ 60 ∧ d.shown.length ≤ sizeLine ∧ Q (.str d.shown) H
theorem call_reprD {X : Cx} (hg : X.A.guards = some []) (hu : X.A.units + 64 < cLine) : CallR X (.builtin "repr") (rReprD X.K) := by
  intro pins s σ H xs us Q I r h
  obtain ⟨a, d, rfl, hd, h1, h2, h3, h4, q⟩ := h
  cases r with
  | cons ra rt =>
    cases rt
    cases (show _ = Value.ref a from ra)
    obtain ⟨as, rd⟩ := Dp.reads I d _ _ hd rfl
    exact repr_of_reads' (h₀ := s.heap) rd h1 (fun z => by rw [h2] at z; cases z) hg (by omega) (fun _ _ e => e) (fun h' u tk hk => ⟨.str d.shown, H, I.kept hk, ⟨u, rfl⟩, q⟩) h4
/-! how long it gets -/
mutual
def wt : PyData → Nat
  | .none => 4
  | .bool _ => 5
  | .int _ => 32
  | .str x => 10 * x.length + 2
  | .list xs => wtAll xs + 2
  | .tuple xs => wtAll xs + 3
  | .dict _ => 0
def wtAll : List PyData → Nat
  | [] => 0
  | x :: xs => wt x + 2 + wtAll xs
end
mutual
/-- ints below 2^30, texts of plain signs, no dict -/
def tame : PyData → Bool
  | .none => true
  | .bool _ => true
  | .int i => decide (i.natAbs < 2 ^ 30)
  | .str x => x.cps.toList.all fun c => decide (c < 1114112)
  | .list xs => tameAll xs
  | .tuple xs => tameAll xs
  | .dict _ => false
def tameAll : List PyData → Bool
  | [] => true
  | x :: xs => tame x && tameAll xs
end
theorem textFrom_up : ∀ (ts : List Str) (k : Nat) (acc : Str), (textFrom k acc ts).length ≤ acc.length + (ts.map fun t => t.length + 2).sum
  | [], k, acc => by simp [textFrom]
  | t :: r, k, acc => by
    have h := textFrom_up r (k + 1) (acc ++ (if k > 0 then ", " else "" : String) ++ t)
    have e : (acc ++ (if k > 0 then ", " else "" : String) ++ t).length ≤ acc.length + 2 + t.length := by
      rw [len_app, len_app]
      have : ((if k > 0 then ", " else "" : String) : Str).length ≤ 2 := by split <;> decide +kernel
      omega
    rw [List.map_cons, List.sum_cons]
    show (textFrom (k + 1) (acc ++ (if k > 0 then ", " else "" : String) ++ t) r).length ≤ _
    omega
theorem piled_sum : ∀ ts : List Str, piled ts = (ts.map fun t => t.length + 2).sum
  | [] => by simp [piled]
  | t :: r => by rw [piled_cons, piled_sum r, List.map_cons, List.sum_cons]

theorem log2_30 {n : Nat} (h : n < 2 ^ 30) : n.log2 < 30 := by
  by_cases h0 : n = 0
  · rw [h0]; decide
  · exact (Nat.log2_lt h0).mpr h
theorem int_text (i : Int) (h : i.natAbs < 2 ^ 30) : ((toString i : String) : Str).length ≤ 32 := by
  have := int_text_length_le (a := i) (k := 30) (by decide) (log2_30 h)
  show (Str.ofString (toString i)).length ≤ 32
  rw [PySem.ofString_length]
  omega
mutual
theorem shown_le : ∀ d : PyData, tame d = true → d.shown.length ≤ wt d
  | .none, _ => by decide +kernel
  | .bool b, _ => by cases b <;> decide +kernel
  | .int i, h => int_text i (of_decide_eq_true h)
  | .str x, h => by
    refine StrLaws.reprText_len x fun c hc => ?_
    have := List.all_eq_true.mp (show (x.cps.toList.all fun c => decide (c < 1114112)) = true from h) c hc
    have := of_decide_eq_true this
    omega
  | .list xs, h => by
    have := shownAll_le xs h
    show (listText (PyData.shownAll xs)).length ≤ wtAll xs + 2
    unfold listText
    have h1 := textFrom_up (PyData.shownAll xs) 0 "["
    rw [len_app]
    have e1 : ("[" : Str).length = 1 := by decide +kernel
    have e2 : ("]" : Str).length = 1 := by decide +kernel
    omega
  | .tuple xs, h => by
    have := shownAll_le xs h
    show (tupleText (PyData.shownAll xs)).length ≤ wtAll xs + 3
    unfold tupleText
    have e1 : ("(" : Str).length = 1 := by decide +kernel
    have e2 : ((if (PyData.shownAll xs).length == 1 then ",)" else ")" : String) : Str).length ≤ 2 := by split <;> decide +kernel
    have h1 : (Str.join ", " (PyData.shownAll xs)).length ≤ ((PyData.shownAll xs).map fun t => t.length + 2).sum := by
      cases hx : PyData.shownAll xs with
      | nil => decide +kernel
      | cons t r =>
        have := join_length_add (t :: r) (by simp)
        rw [piled_sum] at this
        omega
    rw [len_app, len_app]
    omega
  | .dict _, h => by cases h
theorem shownAll_le : ∀ xs : List PyData, tameAll xs = true → ((PyData.shownAll xs).map fun t => t.length + 2).sum ≤ wtAll xs
  | [], _ => Nat.le_refl _
  | x :: xs, h => by
    have h' := Bool.and_eq_true_iff.mp (show (tame x && tameAll xs) = true from h)
    have h1 := shown_le x h'.1
    have h2 := shownAll_le xs h'.2
    show ((x.shown :: PyData.shownAll xs).map fun t => t.length + 2).sum ≤ wt x + 2 + wtAll xs
    rw [List.map_cons, List.sum_cons]
    omega
end
mutual
theorem tame_showable : ∀ d : PyData, tame d = true → d.showable = true ∧ d.hasDict = false ∧ d.canLay0 = true
  | .none, _ => ⟨rfl, rfl, rfl⟩
  | .bool b, _ => ⟨rfl, rfl, rfl⟩
  | .int i, h => by
    refine ⟨?_, rfl, rfl⟩
    have h' : i.natAbs < 2 ^ 30 := of_decide_eq_true h
    show decide (i.natAbs.log2 < 1920) = true
    refine decide_eq_true ?_
    exact Nat.lt_trans (log2_30 h') (by decide)
  | .str x, h => by
    refine ⟨rfl, rfl, ?_⟩
    show x.cps.all (· < 0x110000) = true
    rw [← Array.all_toList]
    exact h
  | .list xs, h => tameAll_showable xs h
  | .tuple xs, h => tameAll_showable xs h
  | .dict _, h => by cases h
theorem tameAll_showable : ∀ xs : List PyData, tameAll xs = true → PyData.showableAll xs = true ∧ PyData.hasDictAll xs = false ∧ PyData.canLayAll0 xs = true
  | [], _ => ⟨rfl, rfl, rfl⟩
  | x :: xs, h => by
    have h' := Bool.and_eq_true_iff.mp (show (tame x && tameAll xs) = true from h)
    obtain ⟨a1, a2, a3⟩ := tame_showable x h'.1
    obtain ⟨b1, b2, b3⟩ := tameAll_showable xs h'.2
    refine ⟨?_, ?_, ?_⟩
    · show (x.showable && PyData.showableAll xs) = true; rw [a1, b1]; rfl
    · show (x.hasDict || PyData.hasDictAll xs) = false; rw [a2, b2]; rfl
    · show (x.canLay0 && PyData.canLayAll0 xs) = true; rw [a3, b3]; rfl
end
/-! like things -/
theorem tameAll_map {α : Type} {f : α → PyData} : ∀ {xs : List α}, (∀ x ∈ xs, tame (f x) = true) → tameAll (xs.map f) = true
  | [], _ => rfl
  | x :: xs, h => by
    show (tame (f x) && tameAll (xs.map f)) = true
    rw [h x List.mem_cons_self, tameAll_map fun y hy => h y (List.mem_cons_of_mem _ hy)]
    rfl
theorem wtAll_map {α : Type} {f : α → PyData} {n : Nat} : ∀ {xs : List α}, (∀ x ∈ xs, wt (f x) ≤ n) → wtAll (xs.map f) ≤ xs.length * (n + 2)
  | [], _ => Nat.zero_le _
  | x :: xs, h => by
    have h1 := h x List.mem_cons_self
    have h2 := wtAll_map fun y hy => h y (List.mem_cons_of_mem _ hy)
    show wt (f x) + 2 + wtAll (xs.map f) ≤ _
    rw [List.length_cons, Nat.succ_mul]
    omega
theorem depthAll_map {α : Type} {f : α → PyData} {n : Nat} : ∀ {xs : List α}, (∀ x ∈ xs, (f x).depth ≤ n) → PyData.depthAll (xs.map f) ≤ n
  | [], _ => Nat.zero_le _
  | x :: xs, h => by
    show max (f x).depth (PyData.depthAll (xs.map f)) ≤ n
    exact Nat.max_le.mpr ⟨h x List.mem_cons_self, depthAll_map fun y hy => h y (List.mem_cons_of_mem _ hy)⟩
section
variable {K : PySem.W.Frag} {ρ : List Sl} {ta tb te : TE} {d e : PyData} {ds es : List PyData}
/-- repr(x), x a list or a tuple -/
theorem xd_repr (h : XD K te ρ d) (hr : is_list d = true ∨ is_tuple d = true) (ht : tame d = true) (hd : d.depth ≤ 60) (hw : wt d ≤ 16000000) : XD K (tCB (rReprD K) (tCons te tNil)) ρ (.str d.shown) := fun F0 H0 F H σ E Q q =>
  h F0 H0 F H σ E _ fun v F1 H1 g d1 => by
    have hv : ∃ a, v = .ref a := by
      cases d1 with
      | lst _ _ => exact ⟨_, rfl⟩
      | tup _ _ => exact ⟨_, rfl⟩
      | _ => rcases hr with z | z <;> cases z
    obtain ⟨a, rfl⟩ := hv
    obtain ⟨s1, s2, _⟩ := tame_showable d ht
    exact ⟨a, d, rfl, dq_dp _ _ (dp_mono g.le _ _ d1), s1, s2, hd, Nat.le_trans (shown_le d ht) (Nat.le_trans hw (by decide)), q _ F1 H1 g (.str _)⟩
theorem shaped_of (ht : tame d = true) (hd : d.depth ≤ 60) : SeqAt.shaped d = true := by
  unfold SeqAt.shaped
  rw [(tame_showable d ht).2.2, Bool.true_and]
  exact decide_eq_true (by omega)
/-- == of two that are the same -/
theorem eqv_same (ht : tame d = true) : PyData.eqv d d = true := SeqAt.eqv_refl d (tame_showable d ht).2.2
end
/-! ### the end of a law -/
theorem walk_top {l : PySem.W.OpenLaw} {n : Nat} {q : Program} {loose : List Str} {XP : (Str → Option Value) → Heap → Prop} {YP : World → Heap → Prop} {d : DefRec} {x : Str} (hn : l.most = some n) (hz : n ≤ sizeLine) (hdf : d.params.defaults = [])
    (F : ∀ (w : World) (mg : Str → Option Value) (f : Addr) (h : Heap), YP w h → h.Ns mainGlobals mg → mg d.name = some (.ref f) → ∃ (K : PySem.W.Frag) (fd : FuncData) (sp : Sp), K.In h ∧ (∀ (s : Shared) (u : Value), BindsTo s fd ⟨[u], []⟩ [(x, u)]) ∧
      (∀ (H : Hp) (a : Addr) (ns : List Int), ns.length ≤ n → SqL K H a (ns.map V.int) → sp [.ref a] H (fun v _ => v = .bl true) E0) ∧ ∀ g : Heap, K.In g → g.Ns mainGlobals mg → AtTop l.prog w K mg g f fd x sp) :
    PySem.W.WalkO q loose XP YP l.row.toRowW d [] (fun f vs => PySem.call f vs) := by
  apply Att.attach_call hn hdf
  intro w s₀ s1 mg mb f o pm cd doc a us ns G Y _ _ _ hm ha hi hl hg
  obtain ⟨K, fd, sp, kin, hb, hs, hC⟩ := F w mg f _ Y G.T.g hm
  exact top_call kin G.T.g G.T.b G.T.builtins G.T.nolimit hg ha hi (Nat.le_trans hl hz) hC (hb _ _) fun H sq => hs H a ns hl sq
end DD

set_option Elab.async false
set_option linter.all false
set_option maxRecDepth 100000
set_option maxHeartbeats 4000000
namespace DD
open PySem PySem.Spec PyProof.Rows L2
open Evl (Ex ex_l ex_t ex_rd)
/-! ### errors of the program: a class below a class over ValueError whose __init__ keeps `at` -/
def oexB (K : PySem.W.Frag) (C : Addr) : Bool := match K.lookup C with
  | some ⟨.type t, _, .cls cd, sl⟩ => t == "type" && match cd.mro, sl.toList with
    | .ref D :: bm, [_, _, _, _, some (.builtin n), _] => D == C && (n == "ValueError.__new__" && (!cd.hasDel && (cd.hasDict && PySem.HandSPX.refsVE bm)))
    | _, _ => false
  | _ => false
theorem oexB_ok {K : PySem.W.Frag} {C : Addr} (h : oexB K C = true) : ∃ nm q N bs bm sn sub ab col dd k0 k1 k2 k3 k5, K.lookup C = some (excClassObj nm q C N bs bm true sn sub ab col dd k0 k1 k2 k3 k5 "ValueError.__new__") ∧ PySem.HandSPX.refsVE bm = true := by
  unfold oexB at h
  split at h
  · rename_i t dd cd sl look
    rw [Bool.and_eq_true, beq_iff_eq] at h
    obtain ⟨rfl, h⟩ := h
    split at h
    · rename_i D bm k0 k1 k2 k3 n k5 em es
      simp only [Bool.and_eq_true, beq_iff_eq, Bool.not_eq_true'] at h
      obtain ⟨rfl, rfl, hdel, hdict, hm⟩ := h
      obtain ⟨nm, bs, mro, ns, qn, hd, sn, sub, ab, col, del⟩ := cd
      simp only at em hdel hdict
      subst em hdel hdict
      obtain ⟨l⟩ := sl
      simp only at es
      subst es
      exact ⟨nm, qn, ns, bs, bm, sn, sub, ab, col, dd, k0, k1, k2, k3, k5, look, hm⟩
    · cases h
  · cases h
/-- all that is asked of such a class: b the one that has the __init__ -/
def errB (K : PySem.W.Frag) (x b : Str) : Bool := oexB K (He.ga K x) && (He.eqO (PySem.W.findIn K (.ref (He.ga K x)) "__setattr__") (some (some (.builtin "object.__setattr__"))) && (decide (PySem.W.subIn K (.ref (He.ga K x)) (.type "BaseException") = some true) &&
  (decide (PySem.W.typeIn K (.ref (He.ga K x)) = some (.type "type")) && (PySem.W.keepIn K (.ref (He.ga K x)) && (He.eqO (PySem.W.findIn K (.ref (He.ga K x)) "__init__") (some (some (.ref (He.ma K (He.ga K b) "__init__")))) &&
  (decide (PySem.W.typeIn K (.ref (He.ma K (He.ga K b) "__init__")) = some (.type "function")) && (He.eqO (PySem.W.findIn K (.ref (He.ga K x)) "at") (some none) && xfB K (He.ga K x))))))))
structure ErrC (K : PySem.W.Frag) (C fI : Addr) : Prop where
  ox : OexC K C
  ini : PySem.W.findIn K (.ref C) "__init__" = some (some (.ref fI))
  tyI : PySem.W.typeIn K (.ref fI) = some (.type "function")
  noAt : PySem.W.findIn K (.ref C) "at" = some none
  xf : XfC K C
theorem errB_ok {K : PySem.W.Frag} {x b : Str} (h : errB K x b = true) : ErrC K (He.ga K x) (He.ma K (He.ga K b) "__init__") := by
  unfold errB at h
  simp only [Bool.and_eq_true, decide_eq_true_eq] at h
  obtain ⟨h1, h2, h3, h4, h5, h6, h7, h8, h9⟩ := h
  exact ⟨⟨oexB_ok h1, He.eqO_ok h2, h3, h4, h5⟩, He.eqO_ok h6, h7, He.eqO_ok h8, xfB_ok h9⟩
/-- __init__(self, at) -/
def spErrI (K : PySem.W.Frag) : Sp := fun vs H Q _ => ∃ (a C : Addr) (i : Int), vs = [.ref a, .int i] ∧ OexC K C ∧ PySem.W.findIn K (.ref C) "at" = some none ∧ H a = some (exo a C none) ∧ i.natAbs.log2 < 1900 ∧
  ∀ dx, H dx = none → dx ≠ a → Q .non (upd (upd H dx (exd dx [("at", .int i)])) a (exo a C (some dx)))
/-- the def of __init__, ready to be called -/
def CalI (Pg : Program) (w : World) (K : PySem.W.Frag) (mg : Str → Option Value) (base : Heap) (f : Addr) (k : Nat) : Prop := ∃ fd ps, Binds K fd ps [] ∧ FnOk Pg w K mg base CX0 k f fd ps (spErrI K)
/-- a promise that may end by an error: PX says which class, which place -/
def spE (K : PySem.W.Frag) (n : Nat) (P : List PyData → PyData → Prop) (PX : List PyData → Addr → Int → Prop) : Sp := fun vs H Q E => vs.length = n ∧ ∃ F ds, Ex F H ∧ DqAll K F vs ds ∧
  ((∃ d, P ds d ∧ ∀ v F' H', Gr F H F' H' → Dq K F' v d → Q v H') ∨ ∃ C i, PX ds C i ∧ ∀ F' H' dx, Gr F H F' H' → H dx = none → F' dx = none → H' dx = some (.xd [("at", .int i)]) → E (.ref C) (some dx) H')
/-- raise C(te) -/
def tRz (K : PySem.W.Frag) (C : Addr) (te : TE) (W : WX) : TS := fun _ σ H => tMkO C (spErrI K) [] (tCons te tNil) σ H fun cls d H' => W cls d σ H'
theorem ps_rz {X : Cx} {W : WX} {x : Str} {C fI : Addr} {k : Nat} {e : Expr} {te : TE} {p pos pos' : Pos} (hc : X.calm = true) (tk : Takes X W) (T : ErrC X.K C fI) (G : CalI X.prog X.w X.K X.mg X.base fI k) (hr : Room (k + 1) X.A) (hg : Gl X x) (hm : X.mg x = some (.ref C)) (he : PE X e te)
    (hdb : (x == ("__debug__" : Str)) = false := by decide) (hs : starEach [e] X.env = (false, eval e X.env) :: starEach [] X.env := by rfl) (hq : (backTo pos' (starEach [] X.env)).any (·.1) = false := by rfl) : PS X (.Raise (some (.Call (.Name x p) [e] [] pos')) none pos) (tRz X.K C te W) := by
  obtain ⟨fd, ps, hb, F⟩ := G
  exact ps_raise hc tk (pmk_oex T.ox T.ini T.tyI F hr hb .nil pass0 hg hm (pa_cons he pa_nil hs) hdb hs hq)
section
variable {K : PySem.W.Frag} {ρ : List Sl} {te : TE} {N : List Sl → Prop} {R : PyData → Prop} {B : Hp → Hp → Prop}
theorem rz_run {C fI : Addr} {i : Int} {F H : Hp} {σ : L2.St} {W : WX} {v : V} (T : ErrC K C fI) (le : Ex F H) (hv : Dq K F v (.int i)) (hi : i.natAbs.log2 < 1900)
    (hW : ∀ H' dx, Gr F H F H' → H dx = none → H' dx = some (.xd [("at", .int i)]) → W (.ref C) (some dx) σ H') :
    [v].length ≤ 1000 ∧ ∀ a, H a = none → spErrI K (.ref a :: ([v] ++ [])) (upd H a (exo a C none))
      (fun v H2 => v = .non ∧ ∃ (d : Addr) (fs : List (Str × V)), H2 a = some (exo a C (some d)) ∧ H2 d = some (exd d fs) ∧ H d = none ∧ W (.ref C) (some d) σ (upd (del H2 a) d (.xd fs))) (fun _ _ _ => False) := by
  refine ⟨by simp, fun a ha => ⟨a, C, i, by rw [dp_int hv]; rfl, T.ox, T.noAt, upd_same, hi, fun dx h1 h2 => ⟨rfl, dx, [("at", .int i)], upd_same, ?_, ?_, ?_⟩⟩⟩
  · rw [upd_ne h2, upd_same]
  · rwa [upd_ne h2] at h1
  · have hdx : H dx = none := by rwa [upd_ne h2] at h1
    have e : upd (del (upd (upd (upd H a (exo a C none)) dx (exd dx [("at", .int i)])) a (exo a C (some dx))) a) dx (.xd [("at", .int i)]) = upd H dx (.xd [("at", .int i)]) := by
      funext b
      by_cases hb : b = dx
      · subst hb; rw [upd_same, upd_same]
      · rw [upd_ne hb, upd_ne hb]
        by_cases hba : b = a
        · subst hba; rw [del_same, ha]
        · rw [del_ne hba, upd_ne hba, upd_ne hb, upd_ne hba]
    rw [e]
    exact hW _ dx (Gr.newH le hdx _) hdx upd_same
theorem sd_rz {C fI : Addr} {i : Int} {E : XK} (T : ErrC K C fI) (h : XD K te ρ (.int i)) (hi : i.natAbs.log2 < 1900)
    (hE : ∀ F0 H0, B F0 H0 → ∀ F' H' dx, Gr F0 H0 F' H' → H0 dx = none → F' dx = none → H' dx = some (.xd [("at", .int i)]) → E (.ref C) (some dx) H') : SD K B (tRz K C te (fun cls d _ H => E cls d H)) ρ N R := fun F0 H0 F H σ D hB En n r =>
  h F0 H0 F H σ En _ fun v F1 H1 g1 d1 => rz_run (σ := σ) (W := fun cls d _ H => E cls d H) T g1.le d1 hi fun H' dx g hd hx =>
    hE F0 H0 hB F1 H' dx ((En.gr.trans g1).trans g) (Evl.fresh_back (En.gr.h.trans g1.h) hd) (free_of g1.le hd) hx
/-- the reading of a def that may raise -/
theorem body_E {t : TS} {n : Nat} {P : List PyData → PyData → Prop} {PX : List PyData → Addr → Int → Prop} {N : List Str} (hN : n ≤ N.length) {vs : List V} {H : Hp} {Q : VK} {E : XK} (h : spE K n P PX vs H Q E)
    (hb : ∀ ds (Rd : PyData → Prop) (BX : Addr → Int → Prop) (B : Hp → Hp → Prop), ds.length = n → ((∃ d, P ds d ∧ ∀ r, r = d → Rd r) ∨ ∃ C i, PX ds C i ∧ BX C i) →
      (∀ C i, BX C i → ∀ F0 H0, B F0 H0 → ∀ F' H' dx, Gr F0 H0 F' H' → H0 dx = none → F' dx = none → H' dx = some (.xd [("at", .int i)]) → E (.ref C) (some dx) H') →
      SD K B t (ds.map .dt ++ List.replicate (N.length - ds.length) .no) (fun _ => Rd .none) Rd) : t { nx := fun _ H' => Q .non H', rt := Q } (L2.start N vs) H := by
  obtain ⟨hl, F, ds, le, hd, hc⟩ := h
  have hdl := dpa_len hd
  rcases hc with ⟨d, hP, q⟩ | ⟨C, i, hX, q⟩
  · refine hb ds (fun r => r = d) (fun _ _ => False) (fun F0 H0 => F0 = F ∧ H0 = H) (by omega) (.inl ⟨d, hP, fun _ e => e⟩) (fun _ _ z => z.elim) F H F H _ _ ⟨rfl, rfl⟩ (env_start le hd (by omega)) (fun F' H' σ' ρ' a _ E' => ?_) (fun F' H' v r a g dr => ?_)
    · cases a; exact q _ F' H' E'.gr .non
    · cases a; exact q v F' H' g dr
  · refine hb ds (fun _ => False) (fun C' i' => C' = C ∧ i' = i) (fun F0 H0 => F0 = F ∧ H0 = H) (by omega) (.inr ⟨C, i, hX, rfl, rfl⟩) (fun C' i' z F0 H0 b F' H' dx g h1 h2 h3 => ?_) F H F H _ _ ⟨rfl, rfl⟩ (env_start le hd (by omega)) (fun _ _ _ _ a _ _ => a.elim) (fun _ _ _ _ a _ _ => a.elim)
    obtain ⟨rfl, rfl⟩ := z
    obtain ⟨rfl, rfl⟩ := b
    exact q F' H' dx g h1 h2 h3
end
end DD

set_option Elab.async false
set_option linter.all false
set_option maxRecDepth 100000
set_option maxHeartbeats 4000000
namespace DD
open PySem PySem.Spec PyProof.Rows L2
open Evl (Ex ex_l ex_t ex_rd)
/-! ### rows of one's own: a list of lists that none else holds -/
structure OwnRows (K : PySem.W.Frag) (F H : Hp) (c : Addr) (rs : List Addr) (rows : List (List PyData)) : Prop where
  nd : (c :: rs).Nodup
  free : ∀ q ∈ c :: rs, F q = none
  top : H c = some (.lst (rs.map V.ref))
  row : Paired (fun r row => ∃ vs, H r = some (.lst vs) ∧ DqAll K F vs row) rs rows
theorem paired_imp {α β : Type} {P Q : α → β → Prop} : ∀ {as : List α} {bs : List β}, Paired P as bs → (∀ a b, a ∈ as → P a b → Q a b) → Paired Q as bs
  | _, _, .nil, _ => .nil
  | _, _, .cons h t, k => .cons (k _ _ List.mem_cons_self h) (paired_imp t fun a b ha => k a b (List.mem_cons_of_mem _ ha))
theorem paired_snoc {α β : Type} {P : α → β → Prop} {a : α} {b : β} (h : P a b) : ∀ {as : List α} {bs : List β}, Paired P as bs → Paired P (as ++ [a]) (bs ++ [b])
  | _, _, .nil => .cons h .nil
  | _, _, .cons k t => .cons k (paired_snoc h t)
theorem dpa_lists {K : PySem.W.Frag} {F : Hp} : ∀ {xs : List V} {rows : List (List PyData)}, DqAll K F xs (rows.map .list) → ∀ (i : Nat) (x : V), xs[i]? = some x → ∃ row, rows[i]? = some row ∧ Dq K F x (.list row) := fun {xs rows} h i x hx => by
  obtain ⟨d, h1, h2⟩ := dpa_get' h hx
  rw [List.getElem?_map] at h1
  obtain ⟨row, h3, rfl⟩ := Option.map_eq_some_iff.mp h1
  exact ⟨row, h3, h2⟩
def spCopy (K : PySem.W.Frag) : Sp := fun vs H Q _ => vs.length = 1 ∧ ∃ F v rows, vs = [v] ∧ Ex F H ∧ Dq K F v (.list (rows.map .list)) ∧ rows.length ≤ 50000 ∧
  ∀ c rs H', Gr F H F H' → (∀ q ∈ c :: rs, H q = none) → OwnRows K F H' c rs rows → Q (.ref c) H'
/-- [list(row) for row in rows] -/
theorem copy_run {K : PySem.W.Frag} {F H : Hp} {v : V} {rows : List (List PyData)} {Q : VK} (le : Ex F H) (hv : Dq K F v (.list (rows.map .list))) (hn : rows.length ≤ 50000)
    (q : ∀ c rs H', Gr F H F H' → (∀ q ∈ c :: rs, H q = none) → OwnRows K F H' c rs rows → Q (.ref c) H') :
    tLc (iList K (tVar 0)) (gName 1) tYes (tCB (rListD K) (tCons (tVar 1) tNil)) [1] [some v, none] H Q := by
  obtain ⟨a, xs, rfl, hs, hd⟩ := dp_lst hv
  have hlen : xs.length = rows.length := by rw [dpa_len hd, List.length_map]
  refine ⟨.ref a, rfl, a, rfl, ⟨xs, ex_l le hs⟩, fun D hD => lc_list (xs := xs) (fun i H2 => ∃ rs : List Addr, Gr F H F H2 ∧ (∀ z ∈ D :: rs, H z = none) ∧ (D :: rs).Nodup ∧ H2 D = some (.lst (rs.map V.ref)) ∧ rs.length = i ∧
    Paired (fun r row => ∃ vs, H2 r = some (.lst vs) ∧ DqAll K F vs row) rs (rows.take i)) ?_ ?_ ?_ ?_⟩
  · exact ⟨[], Gr.newH le hD _, fun z hz => by rw [List.mem_singleton.mp hz]; exact hD, by simp, upd_same, rfl, .nil⟩
  · rintro i H2 _ ⟨rs, g, _⟩
    exact ex_l g.le hs
  · rintro i x H2 hx ⟨rs, g, hfree, hnd, hDl, hl, hp⟩
    obtain ⟨row, hrow, hdx⟩ := dpa_lists hd i x hx
    obtain ⟨p, ys, rfl, b, c⟩ := dp_lst hdx
    refine ⟨rfl, .ref p, rfl, p, ys, rfl, .inl (ex_l g.le b), fun l hl' => ?_⟩
    have nDl : D ≠ l := fun z => by rw [← z, hDl] at hl'; cases hl'
    have hHl : H l = none := Evl.fresh_back g.h hl'
    have nin : l ∉ rs := fun z => by
      have := paired_mem hp z
      obtain ⟨vs, h1⟩ := this
      rw [hl'] at h1; cases h1
    have hi : i < xs.length := (List.getElem?_eq_some_iff.mp hx).1
    refine ⟨rs.map V.ref, by rw [upd_ne nDl]; exact hDl, by rw [List.length_map, hl]; exact Evl.sz_lt (by omega), rs ++ [l], ?_, ?_, ?_, ?_, by rw [List.length_append, hl]; rfl, ?_⟩
    · exact ⟨g.f, (g.h.trans (Ex.new hl')).mut (hfree D List.mem_cons_self), (g.le.trans (Ex.new hl')).mut (free_of le (hfree D List.mem_cons_self)), g.own⟩
    · intro z hz
      rcases List.mem_cons.mp hz with rfl | hz
      · exact hfree _ List.mem_cons_self
      · rcases List.mem_append.mp hz with hz | hz
        · exact hfree z (List.mem_cons_of_mem _ hz)
        · rw [List.mem_singleton.mp hz]; exact hHl
    · obtain ⟨h1, h2⟩ := List.nodup_cons.mp hnd
      refine List.nodup_cons.mpr ⟨fun z => ?_, ?_⟩
      · rcases List.mem_append.mp z with z | z
        · exact h1 z
        · exact nDl (List.mem_singleton.mp z)
      · rw [List.nodup_append]
        refine ⟨h2, by simp, fun x hx y hy => ?_⟩
        rw [List.mem_singleton.mp hy]
        exact fun z => nin (z ▸ hx)
    · rw [upd_same, List.map_append]; rfl
    · have et : rows.take (i + 1) = rows.take i ++ [row] := by
        rw [List.take_add_one, hrow]; rfl
      rw [et]
      refine paired_snoc ⟨ys, by rw [upd_ne (Ne.symm nDl), upd_same], c⟩ (paired_imp hp fun r row' hr h => ?_)
      obtain ⟨vs, h1, h2⟩ := h
      refine ⟨vs, ?_, h2⟩
      have n1 : r ≠ D := fun z => (List.nodup_cons.mp hnd).1 (z ▸ hr)
      have n2 : r ≠ l := fun z => nin (z ▸ hr)
      rw [upd_ne n1, upd_ne n2]
      exact h1
  · rintro H2 ⟨rs, g, hfree, hnd, hDl, hl, hp⟩
    rw [hlen, List.take_length] at hp
    exact q D rs H2 g hfree ⟨hnd, fun z hz => free_of le (hfree z hz), hDl, hp⟩
where
  paired_mem {K : PySem.W.Frag} {F H2 : Hp} {l : Addr} : ∀ {rs : List Addr} {rows : List (List PyData)}, Paired (fun r row => ∃ vs, H2 r = some (.lst vs) ∧ DqAll K F vs row) rs rows → l ∈ rs → ∃ vs, H2 l = some (.lst vs)
    | _, _, .nil, z => by cases z
    | _, _, .cons h t, z => by
      rcases List.mem_cons.mp z with rfl | z
      · obtain ⟨vs, h1, _⟩ := h; exact ⟨vs, h1⟩
      · exact paired_mem t z
/-- frozen: rows as data -/
theorem OwnRows.frz {K : PySem.W.Frag} {F0 H0 F H : Hp} {c : Addr} : ∀ {rs : List Addr} {rows : List (List PyData)}, Gr F0 H0 F H → (∀ q ∈ c :: rs, H0 q = none) → OwnRows K F H c rs rows → ∃ F', Gr F0 H0 F' H ∧ Ex F F' ∧ Dq K F' (.ref c) (.list (rows.map .list)) := fun {rs rows} g h0 O => by
  have key : ∀ (rs : List Addr) (rows : List (List PyData)), rs.Nodup → (∀ q ∈ rs, H0 q = none ∧ F q = none) → Paired (fun r row => ∃ vs, H r = some (.lst vs) ∧ DqAll K F vs row) rs rows →
      ∃ F', Gr F0 H0 F' H ∧ Ex F F' ∧ (∀ q, F q = none → q ∉ rs → F' q = none) ∧ DqAll K F' (rs.map V.ref) (rows.map .list) := by
    intro rs
    induction rs with
    | nil => intro rows _ _ hp; cases hp; exact ⟨F, g, Ex.refl F, fun _ h _ => h, .nil⟩
    | cons r rs ih =>
      intro rows nd hf hp
      cases hp with
      | cons hr ht =>
        obtain ⟨n1, n2⟩ := List.nodup_cons.mp nd
        obtain ⟨F1, g1, e1, k1, d1⟩ := ih _ n2 (fun q hq => hf q (List.mem_cons_of_mem _ hq)) ht
        obtain ⟨vs, h1, h2⟩ := hr
        have hr1 : F1 r = none := k1 r (hf r List.mem_cons_self).2 n1
        refine ⟨upd F1 r (.lst vs), g1.frz (hf r List.mem_cons_self).1 hr1 h1, e1.trans (Ex.new hr1), fun q hq hn => ?_, ?_⟩
        · have : q ≠ r := fun z => hn (z ▸ List.mem_cons_self)
          rw [upd_ne this]
          exact k1 q hq fun z => hn (List.mem_cons_of_mem _ z)
        · exact .cons (.lst (Rd.of upd_same) (dpa_mono (e1.trans (Ex.new hr1)) _ _ h2)) (dpa_mono (Ex.new hr1) _ _ d1)
  obtain ⟨n1, n2⟩ := List.nodup_cons.mp O.nd
  obtain ⟨F1, g1, e1, k1, d1⟩ := key rs rows n2 (fun q hq => ⟨h0 q (List.mem_cons_of_mem _ hq), O.free q (List.mem_cons_of_mem _ hq)⟩) O.row
  have hc1 : F1 c = none := k1 c (O.free c List.mem_cons_self) n1
  exact ⟨upd F1 c (.lst (rs.map V.ref)), g1.frz (h0 c List.mem_cons_self) hc1 O.top, e1.trans (Ex.new hc1), .lst (Rd.of upd_same) (dpa_mono (Ex.new hc1) _ _ d1)⟩
/-- the promise of data from the promise of own rows -/
theorem copy_data {K : PySem.W.Frag} {vs : List V} {H : Hp} {Q : VK} {E : XK} (h : spD K 1 (fun ds d => ∃ rows : List (List PyData), ds = [.list (rows.map .list)] ∧ rows.length ≤ 50000 ∧ d = .list (rows.map .list)) vs H Q E) : spCopy K vs H Q E := by
  obtain ⟨hl, F, ds, d, le, hd, ⟨rows, rfl, hn, rfl⟩, q⟩ := h
  obtain ⟨v, rfl, dv⟩ := dpa1 hd
  refine ⟨rfl, F, v, rows, rfl, le, dv, hn, fun c rs H' g h0 O => ?_⟩
  obtain ⟨F', g', _, hd'⟩ := O.frz g h0
  exact q _ F' H' g' hd'
end DD

set_option Elab.async false
set_option linter.all false
set_option maxRecDepth 100000
set_option maxHeartbeats 4000000
namespace DD
open PySem PySem.Spec PyProof.Rows L2
open Evl (Ex ex_l ex_t ex_rd)
/-- a def that is called, of any promise -/
def CalS (Pg : Program) (w : World) (K : PySem.W.Frag) (mg : Str → Option Value) (base : Heap) (x : Str) (k : Nat) (sp : Sp) : Prop :=
  ∃ (f : Addr) (fd : FuncData) (ps : List Str), mg x = some (.ref f) ∧ PySem.W.keepIn K (.ref f) = true ∧ Binds K fd ps [] ∧ FnOk Pg w K mg base CX0 k f fd ps sp
theorem CalS.imp {Pg : Program} {w : World} {K : PySem.W.Frag} {mg : Str → Option Value} {base : Heap} {x : Str} {k : Nat} {sp sp' : Sp} (C : CalS Pg w K mg base x k sp) (h : ∀ vs H Q E, sp' vs H Q E → sp vs H Q E) : CalS Pg w K mg base x k sp' := by
  obtain ⟨f, fd, ps, h1, h2, h3, h4⟩ := C
  exact ⟨f, fd, ps, h1, h2, h3, h4.imp h⟩
theorem CalS.cal {Pg : Program} {w : World} {K : PySem.W.Frag} {mg : Str → Option Value} {base : Heap} {x : Str} {k n : Nat} {P : List PyData → PyData → Prop} (C : CalS Pg w K mg base x k (spD K n P)) : Cal Pg w K mg base x k n P := C
theorem pe_callSp {X : Cx} {x : Str} {k : Nat} {sp : Sp} {p pos : Pos} {e : Expr} {es : List Expr} {t : TA} (C : CalS X.prog X.w X.K X.mg X.base x k sp) (hr : Room k X.A) (hg : Gl X x) (ha : PA X (e :: es) t)
    (hdb : (x == ("__debug__" : Str)) = false := by decide) (he : starEach (e :: es) X.env = (false, eval e X.env) :: starEach es X.env := by rfl) (hpl : (backTo pos (starEach es X.env)).any (·.1) = false := by rfl) :
    PE X (.Call (.Name x p) (e :: es) [] pos) (tCall sp [] E0 t) := by
  obtain ⟨f, fd, ps, hm, hk, hb, F⟩ := C
  exact pe_call F hr hg hm hk hb .nil pass0 ha hdb he hpl
theorem OwnRows.ex {K : PySem.W.Frag} {F H H' : Hp} {c : Addr} {rs : List Addr} {rows : List (List PyData)} (e : Ex H H') (O : OwnRows K F H c rs rows) : OwnRows K F H' c rs rows :=
  ⟨O.nd, O.free, e _ _ O.top, paired_imp O.row fun r row _ h => by obtain ⟨vs, h1, h2⟩ := h; exact ⟨vs, e _ _ h1, h2⟩⟩
/-- a tuple of rows of one's own and two more things -/
def spTri (K : PySem.W.Frag) (P : PyData → List (List PyData) → PyData → PyData → Prop) : Sp := fun vs H Q _ => vs.length = 1 ∧ ∃ F v d rows d2 d3, vs = [v] ∧ Ex F H ∧ Dq K F v d ∧ P d rows d2 d3 ∧
  ∀ t c rs v2 v3 F' H', Gr F H F' H' → (∀ q ∈ t :: c :: rs, H q = none) → t ∉ c :: rs → F' t = none → OwnRows K F' H' c rs rows → H' t = some (.tup [.ref c, v2, v3]) → Dq K F' v2 d2 → Dq K F' v3 d3 → Q (.ref t) H'
theorem tri_frz {K : PySem.W.Frag} {F H F' H' : Hp} {t c : Addr} {rs : List Addr} {rows : List (List PyData)} {v2 v3 : V} {d2 d3 : PyData} (g : Gr F H F' H') (h0 : ∀ q ∈ t :: c :: rs, H q = none) (ht : t ∉ c :: rs) (hF : F' t = none)
    (O : OwnRows K F' H' c rs rows) (hT : H' t = some (.tup [.ref c, v2, v3])) (h2 : Dq K F' v2 d2) (h3 : Dq K F' v3 d3) : ∃ F2, Gr F H F2 H' ∧ Dq K F2 (.ref t) (.tuple [.list (rows.map .list), d2, d3]) := by
  -- the tuple first, then the rows
  have g1 := g.frz (h0 t List.mem_cons_self) hF hT
  have e1 : Ex F' (upd F' t (.tup [.ref c, v2, v3])) := Ex.new hF
  have O1 : OwnRows K (upd F' t (.tup [.ref c, v2, v3])) H' c rs rows := ⟨O.nd, fun q hq => by
    have : q ≠ t := fun z => ht (z ▸ hq)
    rw [upd_ne this]; exact O.free q hq, O.top, paired_imp O.row fun r row _ h => by obtain ⟨vs, a, b⟩ := h; exact ⟨vs, a, dpa_mono e1 _ _ b⟩⟩
  obtain ⟨F2, g2, e2, hd⟩ := O1.frz g1 (fun q hq => h0 q (List.mem_cons_of_mem _ hq))
  exact ⟨F2, g2, .tup (SqT.of (e2 t _ upd_same)) (.cons hd (.cons (dp_mono (e1.trans e2) _ _ h2) (.cons (dp_mono (e1.trans e2) _ _ h3) .nil)))⟩
theorem tri_data {K : PySem.W.Frag} {P : PyData → List (List PyData) → PyData → PyData → Prop} {vs : List V} {H : Hp} {Q : VK} {E : XK}
    (h : spD K 1 (fun ds d => ∃ a rows d2 d3, ds = [a] ∧ P a rows d2 d3 ∧ d = .tuple [.list (rows.map .list), d2, d3]) vs H Q E) : spTri K P vs H Q E := by
  obtain ⟨hl, F, ds, d, le, hd, ⟨a, rows, d2, d3, rfl, hP, rfl⟩, q⟩ := h
  obtain ⟨v, rfl, dv⟩ := dpa1 hd
  refine ⟨rfl, F, v, a, rows, d2, d3, rfl, le, dv, hP, fun t c rs v2 v3 F' H' g h0 ht hF O hT h2 h3 => ?_⟩
  obtain ⟨F2, g2, hd2⟩ := tri_frz g h0 ht hF O hT h2 h3
  exact q _ F2 H' g2 hd2
/-- told = look(x); if test: return ..; told[0][0][0] = None; told[0].append(1); the rest -/
theorem sd_told {K : PySem.W.Frag} {ρ : List Sl} {ta : TE} {tt : TT} {u tr : TS} {N : List Sl → Prop} {R : PyData → Prop} {B : Hp → Hp → Prop} {P : PyData → List (List PyData) → PyData → PyData → Prop} {j : Nat} {d d2 d3 : PyData} {row : List PyData} {rows : List (List PyData)} {x : PyData}
    (hj : j < ρ.length) (ha : XD K ta ρ d) (hP : P d ((x :: row) :: rows) d2 d3) (hlen : rows.length ≤ 50000) (htt : XT K tt (ρ.set j (.dt (.tuple [.list (((x :: row) :: rows).map .list), d2, d3]))) false) (hu : SD K B u (ρ.set j .no) N R) :
    SD K B (tSeq (tAsg (tCall (spTri K P) [] E0 (tCons ta tNil)) (gName j)) (tSeq (tIfS tt tr tNext) (tSeq (tAsg (tC .non) (gSub (tOp (rIxL K) (tOp (rIxT K) (tVar j) (tC (.int 0))) (tC (.int 0))) (tC (.int 0)) rSetL))
      (tSeq (tDrop (tBM K "list" rAppend (tOp (rIxT K) (tVar j) (tC (.int 0))) (tCons (tC (.int 1)) tNil))) u)))) ρ N R := fun F0 H0 F H σ D hB E n r =>
  ha F0 H0 F H σ E _ fun v F1 H1 g1 d1 => by
    refine ⟨rfl, F1, v, d, _, d2, d3, rfl, g1.le, d1, hP, fun t c rs v2 v3 F2 H2 g2 h0 ht hF O hT h2 h3 => ?_⟩
    have E1 := E.grow g1
    obtain ⟨F3, g3, dT⟩ := tri_frz g2 h0 ht hF O hT h2 h3
    have E3 := (E1.grow g3).setD j dT
    have hjs : j < σ.length := by rw [E.len]; exact hj
    refine htt F0 H0 F3 H2 _ E3 _ fun F4 H4 g4 => ?_
    rw [if_neg (by decide)]
    have e24 : Ex H2 H4 := g4.h
    have O4 := O.ex e24
    have hT4 := e24 _ _ hT
    have hsj : (σ.set j (some (V.ref t)))[j]? = some (some (.ref t)) := List.getElem?_set_self hjs
    obtain ⟨nd, free, top, prow⟩ := O4
    cases prow with
    | @cons r0 _ rs' _ hr hrest =>
      obtain ⟨vs, hr1, hr2⟩ := hr
      have nrc : r0 ≠ c := fun z => (List.nodup_cons.mp nd).1 (z ▸ List.mem_cons_self)
      have ntc : t ≠ c := fun z => ht (z ▸ List.mem_cons_self)
      have ntr : t ≠ r0 := fun z => ht (z ▸ List.mem_cons_of_mem _ List.mem_cons_self)
      have hrl : rs'.length = rows.length := paired_len hrest
      have hvl : vs.length = row.length + 1 := by rw [dpa_len hr2]; rfl
      have hat : atI ((r0 :: rs').map V.ref) 0 = some (V.ref r0) := atI_nat (xs := (r0 :: rs').map V.ref) (j := 0) rfl
      refine ⟨.ref t, hsj, t, _, 0, .ref c, rfl, rfl, SqT.of hT4, rfl, c, _, 0, .ref r0, rfl, rfl, SqL.of top, hat, r0, vs, 0, 0, rfl, rfl, hr1, ?_, ?_⟩
      · unfold ixN; rw [if_pos (by decide), if_pos (by omega)]; rfl
      · have top' : upd H4 r0 (.lst (vs.set 0 .non)) c = some (.lst ((r0 :: rs').map V.ref)) := by rw [upd_ne (Ne.symm nrc)]; exact top
        refine ⟨.ref t, hsj, t, _, 0, .ref c, rfl, rfl, SqT.of (by rw [upd_ne ntr]; exact hT4), rfl, .inl ⟨rfl, _, SqL.of top'⟩, c, _, .int 1, rfl, rfl, top', ?_, ?_⟩
        · rw [List.length_map, List.length_cons, hrl]; exact Evl.sz_lt (by omega)
        · have hr0H : H1 r0 = none := h0 r0 (List.mem_cons_of_mem _ (List.mem_cons_of_mem _ List.mem_cons_self))
          have hcH : H1 c = none := h0 c (List.mem_cons_of_mem _ List.mem_cons_self)
          have gg : Gr F1 H1 F2 (upd (upd H4 r0 (.lst (vs.set 0 .non))) c (.lst ((r0 :: rs').map V.ref ++ [.int 1]))) :=
            ⟨g2.f, ((g2.h.trans e24).mut hr0H).mut hcH, ((g2.le.trans e24).mut (free r0 (List.mem_cons_of_mem _ List.mem_cons_self))).mut (free c List.mem_cons_self), g2.own⟩
          exact hu F0 H0 F2 _ _ D hB ((E1.grow gg).setNo j _) (fun F' H' σ' ρ' a e E' => n F' H' σ' ρ' a ((g1.trans gg).f.trans e) E') r
where
  paired_len {α β : Type} {P : α → β → Prop} : ∀ {as : List α} {bs : List β}, Paired P as bs → as.length = bs.length
    | _, _, .nil => rfl
    | _, _, .cons _ t => by rw [List.length_cons, List.length_cons, paired_len t]
end DD

set_option Elab.async false
set_option linter.all false
set_option maxRecDepth 100000
set_option maxHeartbeats 4000000
namespace DD
open PySem PySem.Spec PyProof.Rows L2
open Evl (Ex ex_l ex_t ex_rd)
section
variable {K : PySem.W.Frag} {ρ : List Sl} {ta tb te : TE} {d e : PyData} {ds es : List PyData}
theorem cut_to {α : Type} (xs : List α) (f : α → PyData) {n : Int} (h : 0 ≤ n) : cutD (xs.map f) none (some n) = (xs.take n.toNat).map f := by
  have e : n = (n.toNat : Int) := by omega
  unfold cutD
  rw [HT.sIx_none, e, HT.sIx_nat, List.drop_zero, List.length_map, List.map_take]
  simp only [Int.toNat_natCast, Nat.sub_zero]
  rw [Nat.min_def]
  split
  · rfl
  · rw [List.take_of_length_le (by simp), List.take_of_length_le (by simp; omega)]
theorem cut_from {α : Type} (xs : List α) (f : α → PyData) {n : Int} (h : 0 ≤ n) : cutD (xs.map f) (some n) none = (xs.drop n.toNat).map f := by
  have e : n = (n.toNat : Int) := by omega
  unfold cutD
  rw [HT.sIx_none, e, HT.sIx_nat, List.length_map, List.map_drop]
  simp only [Int.toNat_natCast]
  rw [List.take_of_length_le (by simp), Nat.min_def]
  split
  · rfl
  · rw [List.drop_eq_nil_of_le (by simp), List.drop_eq_nil_of_le (by simp; omega)]
theorem xo_to {α : Type} {xs : List α} {f : α → PyData} {n : Int} (h : XD K te ρ (.list (xs.map f))) (h2 : XD K ta ρ (.int n)) (hn : 0 ≤ n) : XO K (tSl (rSlL K) te tNoPart (tPart ta)) ρ ((xs.take n.toNat).map f) :=
  (xo_sl h xp_none (xp_some h2)).is (cut_to xs f hn)
theorem xo_from {α : Type} {xs : List α} {f : α → PyData} {n : Int} (h : XD K te ρ (.list (xs.map f))) (h2 : XD K ta ρ (.int n)) (hn : 0 ≤ n) : XO K (tSl (rSlL K) te (tPart ta) tNoPart) ρ ((xs.drop n.toNat).map f) :=
  (xo_sl h (xp_some h2) xp_none).is (cut_from xs f hn)
theorem xo_catM {α : Type} {xs ys : List α} {f : α → PyData} (h1 : XD K ta ρ (.list (xs.map f))) (h2 : XD K tb ρ (.list (ys.map f))) (hz : xs.length + ys.length ≤ 100000) : XO K (tOp rCatR ta tb) ρ ((xs ++ ys).map f) :=
  (xo_cat h1 h2 (by rw [List.length_map, List.length_map]; exact hz)).is (List.map_append).symm
theorem xo_one {α : Type} {x : α} {f : α → PyData} (h : XD K te ρ (f x)) : XO K (tLst (tCons te tNil)) ρ ([x].map f) := xo_lst (xa_cons h xa_nil) (by simp)
end
/-! the law's own promise -/
def spTop (K : PySem.W.Frag) : Sp := fun vs H Q _ => ∃ (a : Addr) (ns : List Int), vs = [.ref a] ∧ SqL K H a (ns.map V.int) ∧ ns.length ≤ 63 ∧ ∀ H', Q (.bl true) H'
theorem body_L {K : PySem.W.Frag} {t : TS} {N : List Str} (hN : 1 ≤ N.length) {vs : List V} {H : Hp} {Q : VK} {E : XK} (h : spTop K vs H Q E)
    (hb : ∀ ns : List Int, ns.length ≤ 63 → SD K (fun _ _ => True) t (.sq (ns.map V.int) :: List.replicate (N.length - 1) .no) (fun _ => False) (fun r => r = .bool true)) : t { nx := fun _ H' => Q .non H', rt := Q } (L2.start N vs) H := by
  obtain ⟨a, ns, rfl, hs, hn, q⟩ := h
  refine hb ns hn H H H H _ _ trivial (env_seq (Ex.refl H) hs hN) (fun _ _ _ _ z _ _ => z.elim) (fun F' H' v r z _ dr => ?_)
  subst z
  cases dr
  exact q H'
/-- calls that may raise -/
def CalE (Pg : Program) (w : World) (K : PySem.W.Frag) (mg : Str → Option Value) (base : Heap) (x : Str) (k : Nat) (sp : Sp) : Prop :=
  ∃ (f : Addr) (fd : FuncData) (ps : List Str), mg x = some (.ref f) ∧ PySem.W.keepIn K (.ref f) = true ∧ Binds K fd ps [] ∧ FnOk Pg w K mg base (CX Pg w) k f fd ps sp
end DD

set_option Elab.async false
set_option linter.all false
set_option maxRecDepth 100000
set_option maxHeartbeats 4000000
namespace DD
open PySem PySem.Spec PyProof.Rows L2
/-! the head: the facts by names and one more Bool -/
abbrev AlY : Type := He.AlD × Bool
def obsY (n : Nat) (fa : List He.Fa) (fn : List He.DefD) (ex : PySem.W.Frag → Bool) (g : Addr → Option Obj) : AlY := (He.obsD fa fn (He.frG g (He.asD g n)), ex (He.frG g (He.asD g n)))
def hookY (n : Nat) (fa : List He.Fa) (fn : List He.DefD) (ex : PySem.W.Frag → Bool) : PySem.W.Hook where
  α := AlY
  obs := fun s => obsY n fa fn ex s.heap.get?
  val := fun _ => (He.valD fn, true)
  says := fun _ h => ∃ K : PySem.W.Frag, K.In h ∧ He.SaysD fa fn K ∧ ex K = true
  of := fun _ _ e => ⟨_, He.frG_in, congrArg (fun z : AlY => z.1) e, congrArg (fun z : AlY => z.2) e⟩
  keeps := fun _ _ _ ⟨K, hK, c⟩ k => ⟨K, PySem.W.Frag.In.keeps hK k, c⟩
theorem obsY_eq {n : Nat} {fa : List He.Fa} {fn : List He.DefD} {ex : PySem.W.Frag → Bool} {g : Addr → Option Obj} {s : Shared} (h : ∀ a, g a = s.heap.get? a) : obsY n fa fn ex g = (hookY n fa fn ex).obs s := by
  have e : g = s.heap.get? := funext h
  rw [e] <;> rfl
/-- one's own error class -/
def excB (K : PySem.W.Frag) (x b : Str) : Bool := errB K x b && decide (PySem.W.exmOne K (.ref (He.ga K x)) (.ref (He.ga K x)) = some true)
def vvB (K : PySem.W.Frag) : Bool := match PySem.W.findCls K (.type "ValueError") (.type "type") "__init__" with
  | some (.val (.builtin n)) => n == "ValueError.__init__"
  | _ => false
theorem vvB_ok {K : PySem.W.Frag} (h : vvB K = true) : PySem.W.findCls K (.type "ValueError") (.type "type") "__init__" = some (.val (.builtin "ValueError.__init__")) := by
  unfold vvB at h
  split at h
  · rename_i n e
    rw [e, eq_of_beq h]
  · cases h
theorem excB_err {K : PySem.W.Frag} {x b : Str} (h : excB K x b = true) : ErrC K (He.ga K x) (He.ma K (He.ga K b) "__init__") := errB_ok (He.ba h).1
theorem excB_exm {K : PySem.W.Frag} {x b : Str} (h : excB K x b = true) : PySem.W.exmOne K (.ref (He.ga K x)) (.ref (He.ga K x)) = some true := of_decide_eq_true (He.ba h).2
end DD

set_option Elab.async false
set_option linter.all false
set_option maxRecDepth 100000
set_option maxHeartbeats 4000000
namespace DD
open PySem PySem.Spec PyProof.Rows L2
open Evl (Ex ex_l ex_t ex_rd)
/-! ### an own error as a value -/
def exv (a : Addr) (cls : Value) (d : Option Addr) : HO := .ext fun h => ∃ (oe : Obj) (vs : Array Value), h.get? a = some oe ∧ Zc cls d oe ∧ oe.data = .fields vs
theorem exv_ok {P : Program} {w : World} {H : Hp} {h : Heap} {a : Addr} {cls : Value} {d : Option Addr} {oe : Obj} {vs : Array Value} (e : h.get? a = some oe) (z : Zc cls d oe) (f : oe.data = .fields vs) : ObjOk P w H h a (exv a cls d) :=
  ⟨⟨oe, vs, e, z, f⟩, ⟨oe, e⟩, fun _ _ ⟨o, v, q, r⟩ k => ⟨o, v, k o q, r⟩⟩
def tMk (t : L2.St → Hp → XK → Prop) : TE := fun σ H Q => t σ H fun cls d H' => ∀ a, H' a = none → Q (.ref a) (upd H' a (exv a cls d))
theorem pe_mk {X : Cx} {e : Expr} {t : L2.St → Hp → XK → Prop} (he : PMk X e t) : PE X e (tMk t) := by
  refine ⟨fun pins s σ H Q I h => wpAny_mono (he pins s σ H _ I h) (fun u s1 hu => ?_) fun _ _ x => x⟩
  obtain ⟨a, oe, vs, sI, H', cls, d, rfl, J, k, hne, ha, hz, hd, h1, na, os, ag, r, q⟩ := hu
  have J2 : Inv X pins σ (upd H' a (exv a cls d)) s1 := J.call' (ch := []) os (Un.laidN k hne na) (J.hok.laidN k na (exv_ok ha hz hd)) ag (fun b z => absurd z (by simp))
  exact ⟨.ref a, _, J2, rfl, q a na⟩
/-- x.n -/
def tXa (K : PySem.W.Frag) (n : Str) (te : TE) : TE := fun σ H Q => te σ H fun x H1 => ∃ (a C dd : Addr) (fs : List (Str × V)) (v : V), x = .ref a ∧ H1 a = some (exv a (.ref C) (some dd)) ∧ H1 dd = some (.xd fs) ∧ XfC K C ∧ PySem.W.findIn K (.ref C) n = some none ∧ fs.lookup n = some v ∧ Q v H1
theorem inst_at {X : Cx} {pins : List (Addr × Obj)} {σ : L2.St} {H : Hp} {s : Shared} {a C dd : Addr} {fs : List (Str × V)} (I : Inv X pins σ H s) (ha : H a = some (exv a (.ref C) (some dd))) (hd : H dd = some (.xd fs)) :
    ∃ (oe od : Obj) (mA : Str → Option Value), PySem.W.InstAt s.heap a oe C (some od) ∧ (∀ f, PySem.W.lookIn f od = some (mA f)) ∧ ∀ f, RelO (fs.lookup f) (mA f) := by
  obtain ⟨⟨oe, vs, h1, hz, hv⟩, _, _⟩ := (show ObjOk X.prog X.w H s.heap a (exv a (.ref C) (some dd)) from I.hok a _ ha)
  obtain ⟨mA, hns, hr⟩ := (show ObjOk X.prog X.w H s.heap dd (.xd fs) from I.hok dd _ hd)
  obtain ⟨od, ho, hl⟩ := lookIn_ns hns
  exact ⟨oe, od, mA, ⟨h1, hz.1, by unfold PySem.W.notCls; rw [hv] <;> rfl, by rw [hz.2]; exact ho⟩, hl, hr⟩
theorem pe_xa {X : Cx} {e : Expr} {te : TE} {pos : Pos} {n : Str} (he : PE X e te) (hb : attributeBase e n X.env (eval e X.env) = eval e X.env := by rfl) : PE X (.Attribute e n pos) (tXa X.K n te) := by
  refine ⟨fun pins s σ H Q I h => attr_of hb (thn (he.run pins s σ H _ I h) fun u s1 hh => ?_)⟩
  obtain ⟨x, H1, I1, rx, a, C, dd, fs, v, rfl, h1, h2, T, hno, l, q⟩ := hh
  obtain rfl : u = Value.ref a := rx
  obtain ⟨oe, od, mA, J, hl, hr⟩ := inst_at I1 h1 h2
  obtain ⟨u, hu, ru⟩ := RelO.some_of (v := v) (o := mA n) (by rw [← l]; exact hr n)
  exact HandSPX.exc_get I1.kIn J T.ga T.gg T.exC (PySem.W.findObj_own T.hdC hno rfl (by rw [hl, hu])) (handed_of ru) ⟨v, H1, I1.tok _, ru, q⟩
/-- what the class of such an object must say for isinstance -/
structure IsxC (K : PySem.W.Frag) (C : Addr) : Prop where
  cl : (PySem.W.clsIn K C).isSome = true
  ga : PySem.W.findIn K (.ref C) "__getattribute__" = some (some (.builtin "BaseException.__getattribute__"))
  gt : PySem.W.findIn K (.ref C) "__getattr__" = some none
  sub : PySem.W.subIn K (.ref C) (.type "BaseException") = some true
  ci : PySem.W.findIn K (.ref C) "__class__" = some (some (.builtin "object.__class__"))
  gi : PySem.W.specialIn K (.builtin "object.__class__") "__get__" = some (some (.builtin "getset_descriptor.__get__"))
  ti : PySem.W.takesIn K (.builtin "object.__class__") = some true
  mr : PySem.W.mroIn K C (.type "object") = some true
def isxB (K : PySem.W.Frag) (C : Addr) : Bool := (PySem.W.clsIn K C).isSome && (He.eqO (PySem.W.findIn K (.ref C) "__getattribute__") (some (some (.builtin "BaseException.__getattribute__"))) && (He.eqO (PySem.W.findIn K (.ref C) "__getattr__") (some none) &&
  (decide (PySem.W.subIn K (.ref C) (.type "BaseException") = some true) && (He.eqO (PySem.W.findIn K (.ref C) "__class__") (some (some (.builtin "object.__class__"))) && (He.eqO (PySem.W.specialIn K (.builtin "object.__class__") "__get__") (some (some (.builtin "getset_descriptor.__get__"))) &&
  (decide (PySem.W.takesIn K (.builtin "object.__class__") = some true) && decide (PySem.W.mroIn K C (.type "object") = some true)))))))
theorem isxB_ok {K : PySem.W.Frag} {C : Addr} (h : isxB K C = true) : IsxC K C := by
  unfold isxB at h
  simp only [Bool.and_eq_true, decide_eq_true_eq] at h
  obtain ⟨h1, h2, h3, h4, h5, h6, h7, h8⟩ := h
  exact ⟨h1, He.eqO_ok h2, He.eqO_ok h3, h4, He.eqO_ok h5, He.eqO_ok h6, h7, h8⟩
def rIsx (K : PySem.W.Frag) : List V → Hp → VK → Prop := fun xs H Q => ∃ (a C dd : Addr) (fs : List (Str × V)) (c : V) (cv : Value) (b : Bool), xs = [.ref a, c] ∧ H a = some (exv a (.ref C) (some dd)) ∧ H dd = some (.xd fs) ∧ IsxC K C ∧ (∀ u, RelV c u → u = cv) ∧ PySem.W.kitOne K (.ref C) cv = some b ∧ Q (.bl b) H
theorem call_isx {X : Cx} : CallR X (.builtin "isinstance") (rIsx X.K) := by
  intro pins s σ H xs us Q I r h
  obtain ⟨a, C, dd, fs, c, cv, b, rfl, h1, h2, T, hc, hk, q⟩ := h
  obtain ⟨oe, od, mA, J, _, _⟩ := inst_at I h1 h2
  match r with
  | .cons rx (.cons rt .nil) =>
    cases (show _ = Value.ref a from rx)
    have ec := hc _ rt
    subst ec
    exact PySem.W.kia_one (PySem.W.kitx_exc T.cl T.ga T.gt T.sub T.ci T.gi T.ti T.mr) I.kIn J hk (fun z => nomatch z) fun tk => ⟨.bl b, H, I.kept (t' := tk) fun _ _ z => z, rfl, q⟩
end DD

set_option Elab.async false
set_option linter.all false
set_option maxRecDepth 100000
set_option maxHeartbeats 4000000
namespace DD
open PySem PySem.Spec PyProof.Rows L2
open Evl (Ex ex_l ex_t ex_rd)
/-! ### values that are no data -/
def VOk (K : PySem.W.Frag) (F : Hp) (v : V) : Sl → Prop
  | .dt d => Dq K F v d
  | .tr P => ∀ F', Ex F F' → P F' v
  | _ => False
theorem VOk.sl {K : PySem.W.Frag} {H0 F H : Hp} {v : V} {x : Sl} (h : VOk K F v x) : SlOk K H0 F H (some v) x := by
  cases x with
  | dt d => exact ⟨v, rfl, h⟩
  | tr P => exact ⟨v, rfl, h⟩
  | _ => exact h.elim
theorem VOk.ow {K : PySem.W.Frag} {F : Hp} {v : V} {x : Sl} (h : VOk K F v x) : ∀ ds, x ≠ .ow ds := fun ds e => by rw [e] at h; exact h
def XS (K : PySem.W.Frag) (te : TE) (ρ : List Sl) (x : Sl) : Prop := ∀ F0 H0 F H σ, Env K F0 H0 F H σ ρ → ∀ Q : VK, (∀ v F' H', Gr F H F' H' → VOk K F' v x → Q v H') → te σ H Q
def SX (K : PySem.W.Frag) (t : TS) (ρ : List Sl) (x : Sl) : Prop := ∀ F0 H0 F H σ (D : Ends), Env K F0 H0 F H σ ρ → (∀ v F' H', Gr F0 H0 F' H' → VOk K F' v x → D.rt v H') → t D σ H
def spS (K : PySem.W.Frag) (n : Nat) (P : List PyData → Sl → Prop) : Sp := fun vs H Q _ => vs.length = n ∧ ∃ F ds x, Ex F H ∧ DqAll K F vs ds ∧ P ds x ∧ ∀ v F' H', Gr F H F' H' → VOk K F' v x → Q v H'
section
variable {K : PySem.W.Frag} {ρ : List Sl} {te : TE} {ta : TA} {tt : TT} {t u : TS} {d : PyData} {ds : List PyData} {x : Sl}
theorem XD.xs (h : XD K te ρ d) : XS K te ρ (.dt d) := fun F0 H0 F H σ E Q q => h F0 H0 F H σ E Q q
theorem sx_ret (h : XS K te ρ x) : SX K (tRet te) ρ x := fun F0 H0 F H σ D E r => h F0 H0 F H σ E _ fun v F' H' g k => r v F' H' (E.gr.trans g) k
theorem sx_if {b : Bool} (h : XT K tt ρ b) (h1 : b = true → SX K t ρ x) (h2 : b = false → SX K u ρ x) : SX K (tSeq (tIfS tt t tNext) u) ρ x := fun F0 H0 F H σ D E r =>
  h F0 H0 F H σ E _ fun F1 H1 g => by
    cases b with
    | true => exact h1 rfl F0 H0 F1 H1 σ _ (E.grow g) r
    | false => exact h2 rfl F0 H0 F1 H1 σ _ (E.grow g) r
theorem sd_asgS {i : Nat} {N : List Sl → Prop} {R : PyData → Prop} {B : Hp → Hp → Prop} (h : XS K te ρ x) (k : N (ρ.set i x)) : SD K B (tAsg te (gName i)) ρ N R := fun F0 H0 F H σ D hB E n r =>
  h F0 H0 F H σ E _ fun v F1 H1 g h1 => n F1 H1 _ _ k g.f ((E.grow g).set i h1.ow h1.sl)
theorem sd_setS {i : Nat} {N : List Sl → Prop} {R : PyData → Prop} {B : Hp → Hp → Prop} (h : XS K te ρ x) (k : SD K B u (ρ.set i x) N R) : SD K B (tSeq (tAsg te (gName i)) u) ρ N R :=
  sd_seq (M := fun r => r = ρ.set i x) (sd_asgS h rfl) fun _ e => e ▸ k
theorem xs_call {n : Nat} {P : List PyData → Sl → Prop} (ha : XA K ta ρ ds) (hn : ds.length = n) (hP : P ds x) : XS K (tCall (spS K n P) [] E0 ta) ρ x := fun F0 H0 F H σ E Q q =>
  ha F0 H0 F H σ E _ fun vs F1 H1 g dv => ⟨by rw [List.append_nil, dpa_len dv]; exact hn, F1, ds, x, g.le, by rw [List.append_nil]; exact dv, hP, fun v F' H' g2 k => q v F' H' (g.trans g2) k⟩
theorem body_S {n : Nat} {P : List PyData → Sl → Prop} {N : List Str} (hN : n ≤ N.length) {vs : List V} {H : Hp} {Q : VK} {E : XK} (h : spS K n P vs H Q E)
    (hb : ∀ ds x, ds.length = n → P ds x → SX K t (ds.map .dt ++ List.replicate (N.length - ds.length) .no) x) : t { nx := fun _ H' => Q .non H', rt := Q } (L2.start N vs) H := by
  obtain ⟨hl, F, ds, x, le, hd, hP, q⟩ := h
  exact hb ds x (by rw [← dpa_len hd]; exact hl) hP F H F H _ _ (env_start le hd (by rw [hl]; exact hN)) q
/-! own errors -/
def XVat (C : Addr) (i : Int) (F : Hp) (v : V) : Prop := ∃ a dd, v = .ref a ∧ F a = some (exv a (.ref C) (some dd)) ∧ F dd = some (.xd [("at", .int i)])
theorem XVat.mono {C : Addr} {i : Int} {F F' : Hp} {v : V} (h : XVat C i F v) (e : Ex F F') : XVat C i F' v := by
  obtain ⟨a, dd, rfl, h1, h2⟩ := h
  exact ⟨a, dd, rfl, e _ _ h1, e _ _ h2⟩
abbrev xv (C : Addr) (i : Int) : Sl := .tr (XVat C i)
theorem Env.xv {F0 H0 F H : Hp} {σ : L2.St} (E : Env K F0 H0 F H σ ρ) {j : Nat} {C : Addr} {i : Int} (h : ρ[j]? = some (xv C i)) : ∃ v, σ[j]? = some (some v) ∧ XVat C i F v := by
  obtain ⟨s, h1, v, h2, h3⟩ := E.ok j _ h
  exact ⟨v, by rw [h1, h2], h3 F (Ex.refl F)⟩
theorem x_at1 {j : Nat} {C : Addr} {i : Int} (h : ρ[j]? = some (xv C i)) (T : XfC K C) (hno : PySem.W.findIn K (.ref C) "at" = some none) : XD K (tXa K "at" (tVar j)) ρ (.int i) := fun F0 H0 F H σ E Q q => by
  obtain ⟨v, h1, a, dd, rfl, h2, h3⟩ := E.xv h
  exact ⟨.ref a, h1, a, C, dd, _, .int i, rfl, E.le _ _ h2, E.le _ _ h3, T, hno, rfl, q _ F H (Gr.refl E.le) (.int i)⟩
theorem x_isx {j : Nat} {C : Addr} {i : Int} {c : V} {cv : Value} {b : Bool} (h : ρ[j]? = some (xv C i)) (T : IsxC K C) (hc : ∀ u, RelV c u → u = cv) (hk : PySem.W.kitOne K (.ref C) cv = some b) :
    XD K (tCB (rIsx K) (tCons (tVar j) (tCons (tC c) tNil))) ρ (.bool b) := fun F0 H0 F H σ E Q q => by
  obtain ⟨v, h1, a, dd, rfl, h2, h3⟩ := E.xv h
  exact ⟨.ref a, h1, a, C, dd, _, c, cv, b, rfl, E.le _ _ h2, E.le _ _ h3, T, hc, hk, q _ F H (Gr.refl E.le) (.bl b)⟩
theorem xs_mk {C fI : Addr} {i : Int} (T : ErrC K C fI) (h : XD K te ρ (.int i)) (hi : i.natAbs.log2 < 1900) : XS K (tMk (tMkO C (spErrI K) [] (tCons te tNil))) ρ (xv C i) := fun F0 H0 F H σ E Q q =>
  h F0 H0 F H σ E _ fun v F1 H1 g1 d1 => rz_run (σ := σ) (W := fun cls d _ H' => ∀ a, H' a = none → Q (.ref a) (upd H' a (exv a cls d))) T g1.le d1 hi fun H' dx g hd hx a ha => by
    have hda : dx ≠ a := fun z => by rw [z, ha] at hx; cases hx
    have g2 := g.trans (Gr.newH g.le ha (exv a (.ref C) (some dx)))
    have g3 := g2.frz (p := dx) (o := .xd [("at", .int i)]) hd (free_of g1.le hd) (by rw [upd_ne hda]; exact hx)
    have haH1 : H1 a = none := Evl.fresh_back g.h ha
    have g4 := g3.frz (p := a) (o := exv a (.ref C) (some dx)) haH1 (by rw [upd_ne (Ne.symm hda)]; exact free_of g1.le haH1) upd_same
    refine q (.ref a) _ _ (g1.trans g4) fun F' e => ⟨a, dx, rfl, e _ _ upd_same, e _ _ ?_⟩
    rw [upd_ne hda, upd_same]
end
/-- C(e), the object itself -/
theorem pe_new {X : Cx} {x : Str} {C fI : Addr} {k : Nat} {e : Expr} {te : TE} {p pos' : Pos} (T : ErrC X.K C fI) (G : CalI X.prog X.w X.K X.mg X.base fI k) (hr : Room (k + 1) X.A) (hg : Gl X x) (hm : X.mg x = some (.ref C)) (he : PE X e te)
    (hdb : (x == ("__debug__" : Str)) = false := by decide) (hs : starEach [e] X.env = (false, eval e X.env) :: starEach [] X.env := by rfl) (hq : (backTo pos' (starEach [] X.env)).any (·.1) = false := by rfl) :
    PE X (.Call (.Name x p) [e] [] pos') (tMk (tMkO C (spErrI X.K) [] (tCons te tNil))) := by
  obtain ⟨fd, ps, hb, F⟩ := G
  exact pe_mk (pmk_oex T.ox T.ini T.tyI F hr hb .nil pass0 hg hm (pa_cons he pa_nil hs) hdb hs hq)
/-- a def asked with one such object, which gives data -/
def spX (K : PySem.W.Frag) (P : Addr → Int → PyData → Prop) : Sp := fun vs H Q _ => ∃ F v C i d, vs = [v] ∧ Ex F H ∧ XVat C i F v ∧ P C i d ∧ ∀ v' F' H', Gr F H F' H' → Dq K F' v' d → Q v' H'
theorem spX.len {K : PySem.W.Frag} {P : Addr → Int → PyData → Prop} {vs : List V} {H : Hp} {Q : VK} {E : XK} (h : spX K P vs H Q E) : vs.length = 1 := by
  obtain ⟨F, v, C, i, d, rfl, _⟩ := h; rfl
theorem xd_callX {K : PySem.W.Frag} {ρ : List Sl} {P : Addr → Int → PyData → Prop} {j : Nat} {C : Addr} {i : Int} {d : PyData} (h : ρ[j]? = some (xv C i)) (hP : P C i d) : XD K (tCall (spX K P) [] E0 (tCons (tVar j) tNil)) ρ d := fun F0 H0 F H σ E Q q => by
  obtain ⟨v, h1, h2⟩ := E.xv h
  exact ⟨v, h1, F, v, C, i, d, rfl, E.le, h2, hP, q⟩
theorem body_X {K : PySem.W.Frag} {P : Addr → Int → PyData → Prop} {te : TE} {N : Str} {vs : List V} {H : Hp} {Q : VK} {E : XK} (h : spX K P vs H Q E) (hb : ∀ C i d, P C i d → XD K te [xv C i] d) : tRet te { nx := fun _ H' => Q .non H', rt := Q } (L2.start [N] vs) H := by
  obtain ⟨F, v, C, i, d, rfl, le, hx, hP, q⟩ := h
  refine hb C i d hP F H F H _ ⟨Gr.refl le, rfl, fun k x hk => ?_, fun k l p dk dl _ hk => ?_⟩ Q q
  · cases k with
    | zero => cases hk; exact ⟨some v, rfl, v, rfl, fun F' e => hx.mono e⟩
    | succ k => simp at hk
  · cases k with
    | zero => cases hk
    | succ k => simp at hk
end DD

set_option Elab.async false
set_option linter.all false
set_option maxRecDepth 100000
set_option maxHeartbeats 0
namespace My
open PySem PySem.Spec PyProof.Rows L2 DD
open Evl (Ex)

def top (i : Nat) : Stmt := PySem.Challenge.pw_samescreen_k07_errors_are_apart.main.body.getD i (.Pass ⟨0, 0, 0, 0⟩)
abbrev s_ScreenError_init : Stmt := inClass (top 1) 0
abbrev s_law_first : Stmt := top 8
abbrev s_law_second : Stmt := top 9
abbrev s_law_kinds : Stmt := top 10
abbrev s_law : Stmt := top 11
structure Txt (K : PySem.W.Frag) (mg : Str → Option Value) : Prop where
  f_len : mg "len" = none
  f_int : mg "int" = none
  f_isinstance : mg "isinstance" = none
  f_range : mg "range" = none
  f_bool : mg "bool" = none
  f_ValueError : mg "ValueError" = none
  vV : PySem.W.findCls K (.type "ValueError") (.type "type") "__init__" = some (.val (.builtin "ValueError.__init__"))
  g_ScreenError : mg "ScreenError" = some (.ref (He.ga K "ScreenError"))
  e_ScreenError : ErrC K (He.ga K "ScreenError") (He.ma K (He.ga K "ScreenError") "__init__")
  x_ScreenError : PySem.W.exmOne K (.ref (He.ga K "ScreenError")) (.ref (He.ga K "ScreenError")) = some true
  g_OutOfRange : mg "OutOfRange" = some (.ref (He.ga K "OutOfRange"))
  e_OutOfRange : ErrC K (He.ga K "OutOfRange") (He.ma K (He.ga K "ScreenError") "__init__")
  x_OutOfRange : PySem.W.exmOne K (.ref (He.ga K "OutOfRange")) (.ref (He.ga K "OutOfRange")) = some true
  g_NotADeed : mg "NotADeed" = some (.ref (He.ga K "NotADeed"))
  e_NotADeed : ErrC K (He.ga K "NotADeed") (He.ma K (He.ga K "ScreenError") "__init__")
  x_NotADeed : PySem.W.exmOne K (.ref (He.ga K "NotADeed")) (.ref (He.ga K "NotADeed")) = some true
  g_OtherSize : mg "OtherSize" = some (.ref (He.ga K "OtherSize"))
  e_OtherSize : ErrC K (He.ga K "OtherSize") (He.ma K (He.ga K "ScreenError") "__init__")
  x_OtherSize : PySem.W.exmOne K (.ref (He.ga K "OtherSize")) (.ref (He.ga K "OtherSize")) = some true
  g_NoStep : mg "NoStep" = some (.ref (He.ga K "NoStep"))
  e_NoStep : ErrC K (He.ga K "NoStep") (He.ma K (He.ga K "ScreenError") "__init__")
  x_NoStep : PySem.W.exmOne K (.ref (He.ga K "NoStep")) (.ref (He.ga K "NoStep")) = some true
  g_NoMove : mg "NoMove" = some (.ref (He.ga K "NoMove"))
  e_NoMove : ErrC K (He.ga K "NoMove") (He.ma K (He.ga K "ScreenError") "__init__")
  x_NoMove : PySem.W.exmOne K (.ref (He.ga K "NoMove")) (.ref (He.ga K "NoMove")) = some true
  i_ScreenError : IsxC K (He.ga K "ScreenError")
  v_ScreenError : PySem.W.kitOne K (.ref (He.ga K "ScreenError")) (.type "ValueError") = some true
  k_ScreenError_ScreenError : PySem.W.kitOne K (.ref (He.ga K "ScreenError")) (.ref (He.ga K "ScreenError")) = some true
  k_ScreenError_OutOfRange : PySem.W.kitOne K (.ref (He.ga K "ScreenError")) (.ref (He.ga K "OutOfRange")) = some false
  k_ScreenError_NotADeed : PySem.W.kitOne K (.ref (He.ga K "ScreenError")) (.ref (He.ga K "NotADeed")) = some false
  k_ScreenError_OtherSize : PySem.W.kitOne K (.ref (He.ga K "ScreenError")) (.ref (He.ga K "OtherSize")) = some false
  k_ScreenError_NoStep : PySem.W.kitOne K (.ref (He.ga K "ScreenError")) (.ref (He.ga K "NoStep")) = some false
  k_ScreenError_NoMove : PySem.W.kitOne K (.ref (He.ga K "ScreenError")) (.ref (He.ga K "NoMove")) = some false
  i_OutOfRange : IsxC K (He.ga K "OutOfRange")
  v_OutOfRange : PySem.W.kitOne K (.ref (He.ga K "OutOfRange")) (.type "ValueError") = some true
  k_OutOfRange_ScreenError : PySem.W.kitOne K (.ref (He.ga K "OutOfRange")) (.ref (He.ga K "ScreenError")) = some true
  k_OutOfRange_OutOfRange : PySem.W.kitOne K (.ref (He.ga K "OutOfRange")) (.ref (He.ga K "OutOfRange")) = some true
  k_OutOfRange_NotADeed : PySem.W.kitOne K (.ref (He.ga K "OutOfRange")) (.ref (He.ga K "NotADeed")) = some false
  k_OutOfRange_OtherSize : PySem.W.kitOne K (.ref (He.ga K "OutOfRange")) (.ref (He.ga K "OtherSize")) = some false
  k_OutOfRange_NoStep : PySem.W.kitOne K (.ref (He.ga K "OutOfRange")) (.ref (He.ga K "NoStep")) = some false
  k_OutOfRange_NoMove : PySem.W.kitOne K (.ref (He.ga K "OutOfRange")) (.ref (He.ga K "NoMove")) = some false
  i_NotADeed : IsxC K (He.ga K "NotADeed")
  v_NotADeed : PySem.W.kitOne K (.ref (He.ga K "NotADeed")) (.type "ValueError") = some true
  k_NotADeed_ScreenError : PySem.W.kitOne K (.ref (He.ga K "NotADeed")) (.ref (He.ga K "ScreenError")) = some true
  k_NotADeed_OutOfRange : PySem.W.kitOne K (.ref (He.ga K "NotADeed")) (.ref (He.ga K "OutOfRange")) = some false
  k_NotADeed_NotADeed : PySem.W.kitOne K (.ref (He.ga K "NotADeed")) (.ref (He.ga K "NotADeed")) = some true
  k_NotADeed_OtherSize : PySem.W.kitOne K (.ref (He.ga K "NotADeed")) (.ref (He.ga K "OtherSize")) = some false
  k_NotADeed_NoStep : PySem.W.kitOne K (.ref (He.ga K "NotADeed")) (.ref (He.ga K "NoStep")) = some false
  k_NotADeed_NoMove : PySem.W.kitOne K (.ref (He.ga K "NotADeed")) (.ref (He.ga K "NoMove")) = some false
  i_OtherSize : IsxC K (He.ga K "OtherSize")
  v_OtherSize : PySem.W.kitOne K (.ref (He.ga K "OtherSize")) (.type "ValueError") = some true
  k_OtherSize_ScreenError : PySem.W.kitOne K (.ref (He.ga K "OtherSize")) (.ref (He.ga K "ScreenError")) = some true
  k_OtherSize_OutOfRange : PySem.W.kitOne K (.ref (He.ga K "OtherSize")) (.ref (He.ga K "OutOfRange")) = some false
  k_OtherSize_NotADeed : PySem.W.kitOne K (.ref (He.ga K "OtherSize")) (.ref (He.ga K "NotADeed")) = some false
  k_OtherSize_OtherSize : PySem.W.kitOne K (.ref (He.ga K "OtherSize")) (.ref (He.ga K "OtherSize")) = some true
  k_OtherSize_NoStep : PySem.W.kitOne K (.ref (He.ga K "OtherSize")) (.ref (He.ga K "NoStep")) = some false
  k_OtherSize_NoMove : PySem.W.kitOne K (.ref (He.ga K "OtherSize")) (.ref (He.ga K "NoMove")) = some false
  i_NoStep : IsxC K (He.ga K "NoStep")
  v_NoStep : PySem.W.kitOne K (.ref (He.ga K "NoStep")) (.type "ValueError") = some true
  k_NoStep_ScreenError : PySem.W.kitOne K (.ref (He.ga K "NoStep")) (.ref (He.ga K "ScreenError")) = some true
  k_NoStep_OutOfRange : PySem.W.kitOne K (.ref (He.ga K "NoStep")) (.ref (He.ga K "OutOfRange")) = some false
  k_NoStep_NotADeed : PySem.W.kitOne K (.ref (He.ga K "NoStep")) (.ref (He.ga K "NotADeed")) = some false
  k_NoStep_OtherSize : PySem.W.kitOne K (.ref (He.ga K "NoStep")) (.ref (He.ga K "OtherSize")) = some false
  k_NoStep_NoStep : PySem.W.kitOne K (.ref (He.ga K "NoStep")) (.ref (He.ga K "NoStep")) = some true
  k_NoStep_NoMove : PySem.W.kitOne K (.ref (He.ga K "NoStep")) (.ref (He.ga K "NoMove")) = some false
  i_NoMove : IsxC K (He.ga K "NoMove")
  v_NoMove : PySem.W.kitOne K (.ref (He.ga K "NoMove")) (.type "ValueError") = some true
  k_NoMove_ScreenError : PySem.W.kitOne K (.ref (He.ga K "NoMove")) (.ref (He.ga K "ScreenError")) = some true
  k_NoMove_OutOfRange : PySem.W.kitOne K (.ref (He.ga K "NoMove")) (.ref (He.ga K "OutOfRange")) = some false
  k_NoMove_NotADeed : PySem.W.kitOne K (.ref (He.ga K "NoMove")) (.ref (He.ga K "NotADeed")) = some false
  k_NoMove_OtherSize : PySem.W.kitOne K (.ref (He.ga K "NoMove")) (.ref (He.ga K "OtherSize")) = some false
  k_NoMove_NoStep : PySem.W.kitOne K (.ref (He.ga K "NoMove")) (.ref (He.ga K "NoStep")) = some false
  k_NoMove_NoMove : PySem.W.kitOne K (.ref (He.ga K "NoMove")) (.ref (He.ga K "NoMove")) = some true

theorem str_len (i : Int) (h : i.natAbs.log2 < 1900) : ((toString i : String) : Str).length ≤ 1901 := by
  have := int_text_length_le (a := i) (k := 1900) (by decide) h
  show (Str.ofString (toString i)).length ≤ 1901
  rw [PySem.ofString_length]
  omega
theorem sc_ErrInit : FnScope ["self", "at"] ["self", "at"] (defScope s_ScreenError_init) := ⟨rfl, rfl, rfl, by decide +kernel, rfl, by decide +kernel, by decide +kernel⟩
theorem ok_ErrInit {Pg : Program} {w : World} {K : PySem.W.Frag} {mg : Str → Option Value} {base : Heap} (T : Txt K mg) {f : Addr} {fd : FuncData}
    (F : FunD K "__init__" "ScreenError.__init__" (defArgs s_ScreenError_init) (defBody s_ScreenError_init) (defScope s_ScreenError_init) [] [] f fd) : FnOk Pg w K mg base CX0 1 f fd ["self", "at"] (spErrI K) := by
  refine F.ok sc_ErrInit (fun vs H Q E h => by obtain ⟨a, C, i, rfl, _⟩ := h; rfl) (fun cdv A outer s H vs Q E hr h => ⟨_, PSs.nox (pss_cons (ps_expr (pe_veinit (by rfl) T.f_ValueError T.vV (pa_cons (pv 0) (pa_cons (pe_joined (.cons pe_str (.cons (pe_fmt (pv 1)) .nil))) pa_nil)))) (pss_one (ps_ost (pv 0) (pv 1)))), ?_⟩)
  obtain ⟨a, C, i, rfl, ox, hno, ha, hi, k⟩ := h
  have h1 := str_len i hi
  have h2 : ("at " : Str).length = 3 := by decide +kernel
  have h3 : ∀ y : Str, (Str.empty ++ y).length = y.length := fun y => by rw [empty_app]
  refine ⟨.ref a, rfl, ("at " : Str), rfl, ?_, .int i, rfl, .inr ⟨i, rfl, by omega, toString i, rfl, ?_, a, C, _, rfl, by simp, ox, ha, .int i, rfl, .ref a, rfl, a, C, rfl, ox, hno, .inl ⟨ha, fun dx h1 h2 => k dx h1 h2⟩⟩⟩
  · rw [h3, h2]; decide
  · rw [len_app, h3, h2]
    exact Nat.le_trans (Nat.add_le_add_left h1 _) (by decide)


def cl (K : PySem.W.Frag) (i : Nat) : Addr := He.ga K (["OutOfRange", "NotADeed", "OtherSize", "NoStep", "NoMove"].getD i "")
def firstX (K : PySem.W.Frag) (k n : Int) : Sl := if k = 0 then xv (He.ga K "OutOfRange") n else if k = 1 then xv (He.ga K "NotADeed") n else if k = 2 then xv (He.ga K "OtherSize") n else .dt .none
def secondX (K : PySem.W.Frag) (k n : Int) : Sl := if k = 3 then xv (He.ga K "NoStep") n else if k = 4 then xv (He.ga K "NoMove") n else .dt .none
def P_first (K : PySem.W.Frag) : List PyData → Sl → Prop := fun ds x => ∃ k n : Int, ds = [.int k, .int n] ∧ n.natAbs.log2 < 1900 ∧ x = firstX K k n
def P_second (K : PySem.W.Frag) : List PyData → Sl → Prop := fun ds x => ∃ k n : Int, ds = [.int k, .int n] ∧ n.natAbs.log2 < 1900 ∧ x = secondX K k n
def P_kinds (K : PySem.W.Frag) : Addr → Int → PyData → Prop := fun C _ d => ∃ b0 b1 b2 b3 b4 : Bool, IsxC K C ∧ PySem.W.kitOne K (.ref C) (.ref (He.ga K "OutOfRange")) = some b0 ∧ PySem.W.kitOne K (.ref C) (.ref (He.ga K "NotADeed")) = some b1 ∧
  PySem.W.kitOne K (.ref C) (.ref (He.ga K "OtherSize")) = some b2 ∧ PySem.W.kitOne K (.ref C) (.ref (He.ga K "NoStep")) = some b3 ∧ PySem.W.kitOne K (.ref C) (.ref (He.ga K "NoMove")) = some b4 ∧ d = .list [.bool b0, .bool b1, .bool b2, .bool b3, .bool b4]
theorem ref_rel {a : Addr} : ∀ u, RelV (.ref a) u → u = .ref a := fun _ h => h
theorem ty_rel {n : String} : ∀ u, RelV (.ty n) u → u = .type n := fun _ h => h
theorem log_ok {n : Int} (h : -(10 ^ 31) ≤ n ∧ n ≤ 10 ^ 31) : n.natAbs.log2 < 1900 := by
  by_cases z : n.natAbs = 0
  · rw [z]; decide
  · refine (Nat.log2_lt z).mpr (Nat.lt_of_lt_of_le (m := 2 ^ 200) ?_ (Nat.pow_le_pow_right (by decide) (show 200 ≤ 1900 by decide)))
    have : (10 ^ 31 : Int) < 2 ^ 200 := by decide
    omega
structure KindAt (K : PySem.W.Frag) (i : Nat) : Prop where
  f : ∀ n : Int, i < 3 → firstX K i n = xv (cl K i) n
  s : ∀ n : Int, 3 ≤ i → secondX K i n = xv (cl K i) n
  isx : IsxC K (cl K i)
  xf : XfC K (cl K i)
  noAt : PySem.W.findIn K (.ref (cl K i)) "at" = some none
  scr : PySem.W.kitOne K (.ref (cl K i)) (.ref (He.ga K "ScreenError")) = some true
  val : PySem.W.kitOne K (.ref (cl K i)) (.type "ValueError") = some true
  kinds : ∀ n, P_kinds K (cl K i) n (.list ((List.range 5).map fun (j : Nat) => PyData.bool (decide ((j : Int) = (i : Int)))))
theorem kind_at {K : PySem.W.Frag} {mg : Str → Option Value} (T : Txt K mg) : ∀ i : Nat, i < 5 → KindAt K i
  | 0, _ => ⟨fun n h => rfl, fun n h => absurd h (by decide), T.i_OutOfRange, T.e_OutOfRange.xf, T.e_OutOfRange.noAt, T.k_OutOfRange_ScreenError, T.v_OutOfRange, fun n => ⟨_, _, _, _, _, T.i_OutOfRange, T.k_OutOfRange_OutOfRange, T.k_OutOfRange_NotADeed, T.k_OutOfRange_OtherSize, T.k_OutOfRange_NoStep, T.k_OutOfRange_NoMove, rfl⟩⟩
  | 1, _ => ⟨fun n h => rfl, fun n h => absurd h (by decide), T.i_NotADeed, T.e_NotADeed.xf, T.e_NotADeed.noAt, T.k_NotADeed_ScreenError, T.v_NotADeed, fun n => ⟨_, _, _, _, _, T.i_NotADeed, T.k_NotADeed_OutOfRange, T.k_NotADeed_NotADeed, T.k_NotADeed_OtherSize, T.k_NotADeed_NoStep, T.k_NotADeed_NoMove, rfl⟩⟩
  | 2, _ => ⟨fun n h => rfl, fun n h => absurd h (by decide), T.i_OtherSize, T.e_OtherSize.xf, T.e_OtherSize.noAt, T.k_OtherSize_ScreenError, T.v_OtherSize, fun n => ⟨_, _, _, _, _, T.i_OtherSize, T.k_OtherSize_OutOfRange, T.k_OtherSize_NotADeed, T.k_OtherSize_OtherSize, T.k_OtherSize_NoStep, T.k_OtherSize_NoMove, rfl⟩⟩
  | 3, _ => ⟨fun n h => absurd h (by decide), fun n h => rfl, T.i_NoStep, T.e_NoStep.xf, T.e_NoStep.noAt, T.k_NoStep_ScreenError, T.v_NoStep, fun n => ⟨_, _, _, _, _, T.i_NoStep, T.k_NoStep_OutOfRange, T.k_NoStep_NotADeed, T.k_NoStep_OtherSize, T.k_NoStep_NoStep, T.k_NoStep_NoMove, rfl⟩⟩
  | 4, _ => ⟨fun n h => absurd h (by decide), fun n h => rfl, T.i_NoMove, T.e_NoMove.xf, T.e_NoMove.noAt, T.k_NoMove_ScreenError, T.v_NoMove, fun n => ⟨_, _, _, _, _, T.i_NoMove, T.k_NoMove_OutOfRange, T.k_NoMove_NotADeed, T.k_NoMove_OtherSize, T.k_NoMove_NoStep, T.k_NoMove_NoMove, rfl⟩⟩
  | n + 5, h => absurd h (by omega)


theorem sc_law_first : FnScope ["k", "n"] ["k", "n"] (defScope s_law_first) := ⟨rfl, rfl, rfl, by decide +kernel, rfl, by decide +kernel, by decide +kernel⟩
theorem ok_law_first {Pg : Program} {w : World} {K : PySem.W.Frag} {mg : Str → Option Value} {base : Heap} (T : Txt K mg) (C_ErrI : CalI Pg w K mg base (He.ma K (He.ga K "ScreenError") "__init__") 1) {f : Addr} {fd : FuncData} (F : FnP K "_law_first" s_law_first f fd) : FnOk Pg w K mg base CX0 3 f fd ["k", "n"] (spS K 2 (P_first K)) := by
  refine F.ok sc_law_first (fun vs H Q E h => h.1) (fun cdv A outer s H vs Q E hr h => ⟨_, PSs.nox (pss_cons (ps_if (pt_cmpR op_eq (pv 0) pe_int (nomark _)) (pss_one (ps_ret (pe_new T.e_OutOfRange C_ErrI (hr.mono (by decide)) (by rfl) T.g_OutOfRange (pv 1)))) pss_nil)
      (pss_cons (ps_if (pt_cmpR op_eq (pv 0) pe_int (nomark _)) (pss_one (ps_ret (pe_new T.e_NotADeed C_ErrI (hr.mono (by decide)) (by rfl) T.g_NotADeed (pv 1)))) pss_nil)
      (pss_cons (ps_if (pt_cmpR op_eq (pv 0) pe_int (nomark _)) (pss_one (ps_ret (pe_new T.e_OtherSize C_ErrI (hr.mono (by decide)) (by rfl) T.g_OtherSize (pv 1)))) pss_nil)
      (pss_one (ps_ret pe_non))))), ?_⟩)
  refine body_S (N := ["k", "n"]) (by decide) h fun ds x hl hP => ?_
  obtain ⟨k, n, rfl, hn, rfl⟩ := hP
  refine sx_if (b := decide (k = 0)) (xt_test (xd_eqI (xd_var rfl) xd_int)) (fun hb => ?_) (fun hb => ?_)
  · rw [show firstX K k n = xv (He.ga K "OutOfRange") n from if_pos (of_decide_eq_true hb)]
    exact sx_ret (xs_mk T.e_OutOfRange (xd_var rfl) hn)
  have h0 : ¬ k = 0 := of_decide_eq_false hb
  refine sx_if (b := decide (k = 1)) (xt_test (xd_eqI (xd_var rfl) xd_int)) (fun hb => ?_) (fun hb => ?_)
  · rw [show firstX K k n = xv (He.ga K "NotADeed") n by unfold firstX; rw [if_neg h0, if_pos (of_decide_eq_true hb)]]
    exact sx_ret (xs_mk T.e_NotADeed (xd_var rfl) hn)
  have h1 : ¬ k = 1 := of_decide_eq_false hb
  refine sx_if (b := decide (k = 2)) (xt_test (xd_eqI (xd_var rfl) xd_int)) (fun hb => ?_) (fun hb => ?_)
  · rw [show firstX K k n = xv (He.ga K "OtherSize") n by unfold firstX; rw [if_neg h0, if_neg h1, if_pos (of_decide_eq_true hb)]]
    exact sx_ret (xs_mk T.e_OtherSize (xd_var rfl) hn)
  have h2 : ¬ k = 2 := of_decide_eq_false hb
  rw [show firstX K k n = .dt .none by unfold firstX; rw [if_neg h0, if_neg h1, if_neg h2]]
  exact sx_ret xd_non.xs


theorem sc_law_second : FnScope ["k", "n"] ["k", "n"] (defScope s_law_second) := ⟨rfl, rfl, rfl, by decide +kernel, rfl, by decide +kernel, by decide +kernel⟩
theorem ok_law_second {Pg : Program} {w : World} {K : PySem.W.Frag} {mg : Str → Option Value} {base : Heap} (T : Txt K mg) (C_ErrI : CalI Pg w K mg base (He.ma K (He.ga K "ScreenError") "__init__") 1) {f : Addr} {fd : FuncData} (F : FnP K "_law_second" s_law_second f fd) : FnOk Pg w K mg base CX0 3 f fd ["k", "n"] (spS K 2 (P_second K)) := by
  refine F.ok sc_law_second (fun vs H Q E h => h.1) (fun cdv A outer s H vs Q E hr h => ⟨_, PSs.nox (pss_cons (ps_if (pt_cmpR op_eq (pv 0) pe_int (nomark _)) (pss_one (ps_ret (pe_new T.e_NoStep C_ErrI (hr.mono (by decide)) (by rfl) T.g_NoStep (pv 1)))) pss_nil)
      (pss_cons (ps_if (pt_cmpR op_eq (pv 0) pe_int (nomark _)) (pss_one (ps_ret (pe_new T.e_NoMove C_ErrI (hr.mono (by decide)) (by rfl) T.g_NoMove (pv 1)))) pss_nil)
      (pss_one (ps_ret pe_non)))), ?_⟩)
  refine body_S (N := ["k", "n"]) (by decide) h fun ds x hl hP => ?_
  obtain ⟨k, n, rfl, hn, rfl⟩ := hP
  refine sx_if (b := decide (k = 3)) (xt_test (xd_eqI (xd_var rfl) xd_int)) (fun hb => ?_) (fun hb => ?_)
  · rw [show secondX K k n = xv (He.ga K "NoStep") n from if_pos (of_decide_eq_true hb)]
    exact sx_ret (xs_mk T.e_NoStep (xd_var rfl) hn)
  have h0 : ¬ k = 3 := of_decide_eq_false hb
  refine sx_if (b := decide (k = 4)) (xt_test (xd_eqI (xd_var rfl) xd_int)) (fun hb => ?_) (fun hb => ?_)
  · rw [show secondX K k n = xv (He.ga K "NoMove") n by unfold secondX; rw [if_neg h0, if_pos (of_decide_eq_true hb)]]
    exact sx_ret (xs_mk T.e_NoMove (xd_var rfl) hn)
  have h1 : ¬ k = 4 := of_decide_eq_false hb
  rw [show secondX K k n = .dt .none by unfold secondX; rw [if_neg h0, if_neg h1]]
  exact sx_ret xd_non.xs


theorem sc_law_kinds : FnScope ["e"] ["e"] (defScope s_law_kinds) := ⟨rfl, rfl, rfl, by decide +kernel, rfl, by decide +kernel, by decide +kernel⟩
theorem ok_law_kinds {Pg : Program} {w : World} {K : PySem.W.Frag} {mg : Str → Option Value} {base : Heap} (T : Txt K mg) {f : Addr} {fd : FuncData} (F : FnP K "_law_kinds" s_law_kinds f fd) : FnOk Pg w K mg base CX0 1 f fd ["e"] (spX K (P_kinds K)) := by
  refine F.ok sc_law_kinds (fun vs H Q E h => h.len) (fun cdv A outer s H vs Q E hr h => ⟨_, PSs.nox (pss_one (ps_ret (pe_lst (pa_cons (pe_callB call_isx (by rfl) T.f_isinstance PyProof.Rows.boot_isinstance (pa_cons (pv 0) (pa_cons (pe_glob (v := .ref (He.ga K "OutOfRange")) (by rfl) T.g_OutOfRange rfl) pa_nil))) (pa_cons (pe_callB call_isx (by rfl) T.f_isinstance PyProof.Rows.boot_isinstance (pa_cons (pv 0) (pa_cons (pe_glob (v := .ref (He.ga K "NotADeed")) (by rfl) T.g_NotADeed rfl) pa_nil))) (pa_cons (pe_callB call_isx (by rfl) T.f_isinstance PyProof.Rows.boot_isinstance (pa_cons (pv 0) (pa_cons (pe_glob (v := .ref (He.ga K "OtherSize")) (by rfl) T.g_OtherSize rfl) pa_nil))) (pa_cons (pe_callB call_isx (by rfl) T.f_isinstance PyProof.Rows.boot_isinstance (pa_cons (pv 0) (pa_cons (pe_glob (v := .ref (He.ga K "NoStep")) (by rfl) T.g_NoStep rfl) pa_nil))) (pa_cons (pe_callB call_isx (by rfl) T.f_isinstance PyProof.Rows.boot_isinstance (pa_cons (pv 0) (pa_cons (pe_glob (v := .ref (He.ga K "NoMove")) (by rfl) T.g_NoMove rfl) pa_nil))) pa_nil)))))))), ?_⟩)
  refine body_X (N := "e") h fun C i d hP => ?_
  obtain ⟨b0, b1, b2, b3, b4, TI, h0, h1, h2, h3, h4, rfl⟩ := hP
  exact (xo_lst (xa_cons (x_isx rfl TI ref_rel h0) (xa_cons (x_isx rfl TI ref_rel h1) (xa_cons (x_isx rfl TI ref_rel h2) (xa_cons (x_isx rfl TI ref_rel h3) (xa_cons (x_isx rfl TI ref_rel h4) xa_nil))))) (by simp)).xd


theorem sc_law : FnScope ["script", "number", "k", "e", "base", "j"] ["script"] (defScope s_law) := ⟨rfl, rfl, rfl, by decide +kernel, rfl, by decide +kernel, by decide +kernel⟩
theorem at_law {Pg : Program} {w : World} {K : PySem.W.Frag} {mg : Str → Option Value} {g : Heap} (T : Txt K mg) (C_ErrI : CalI Pg w K mg g (He.ma K (He.ga K "ScreenError") "__init__") 1) (C_law_first : CalS Pg w K mg g "_law_first" 3 (spS K 2 (P_first K))) (C_law_second : CalS Pg w K mg g "_law_second" 3 (spS K 2 (P_second K))) (C_law_kinds : CalS Pg w K mg g "_law_kinds" 1 (spX K (P_kinds K)))
    {f : Addr} {fd : FuncData} (F : FnP K "law" s_law f fd) : AtTop Pg w K mg g f fd "script" (spTop K) := by
  refine atTop_of (k := 4) F sc_law ⟨rfl, by decide, by decide⟩ (fun cdv s H vs Q hr h => ?_)
  have hu := hr.units
  refine ⟨_, PSs.nox (pss_cons (ps_set (i := 1) sc_law.nd rfl (Or.inl rfl) pe_int)
      (pss_cons (ps_if (pt_cmpR op_gt (pe_callB call_len (by rfl) T.f_len boot_len (pa_cons (pv 0) pa_nil)) pe_int (nomark _)) (pss_one (ps_set (i := 1) sc_law.nd rfl (Or.inl rfl) (pe_op op_sub (pe_op op_mod (pe_callTy call_int1 (by rfl) T.f_int PyProof.Rows.boot_int (pa_cons (pe_ix ix_list (pv 0) pe_int (fun _ _ => rfl)) pa_nil)) (pe_op op_pow pe_int pe_int)) (pe_op op_pow pe_int pe_int)))) pss_nil)
      (pss_cons (ps_for PassesOwn.never rfl (pi_range1 rfl T.f_range (pa_cons pe_int pa_nil)) (pg_name (i := 2) sc_law.nd rfl (Or.inr rfl))
        (pss_cons (ps_set (i := 3) sc_law.nd rfl (Or.inl rfl) (pe_callSp C_law_first (hr.mono (by decide)) (by rfl) (pa_cons (pv 2) (pa_cons (pe_op op_add (pv 1) (pv 2)) pa_nil))))
      (pss_cons (ps_if (pt_cmpR op_ge (pv 2) pe_int (nomark _)) (pss_one (ps_set (i := 3) sc_law.nd rfl (Or.inl rfl) (pe_callSp C_law_second (hr.mono (by decide)) (by rfl) (pa_cons (pv 2) (pa_cons (pe_op op_add (pv 1) (pv 2)) pa_nil))))) pss_nil)
      (pss_cons (ps_if (pw_or (pt_not (pt_val (pe_callB call_isx (by rfl) T.f_isinstance PyProof.Rows.boot_isinstance (pa_cons (pv 3) (pa_cons (pe_glob (v := .ref (He.ga K "ScreenError")) (by rfl) T.g_ScreenError rfl) pa_nil))))) (pw_or1 (pt_not (pt_val (pe_callB call_isx (by rfl) T.f_isinstance PyProof.Rows.boot_isinstance (pa_cons (pv 3) (pa_cons (pe_bltn (v := .ty "ValueError") (u := .type "ValueError") (by rfl) T.f_ValueError (by decide +kernel) rfl) pa_nil))))))).pt (pss_one (ps_ret pe_bl)) pss_nil)
      (pss_cons (ps_if (pw_or (pt_not (pt_val (pe_callB call_isi (by rfl) T.f_isinstance PyProof.Rows.boot_isinstance (pa_cons (pe_xa (pv 3)) (pa_cons (pe_bltn (v := .ty "int") (u := .type "int") (by rfl) T.f_int (by decide +kernel) rfl) pa_nil))))) (pw_or (pt_val (pe_callB call_isi (by rfl) T.f_isinstance PyProof.Rows.boot_isinstance (pa_cons (pe_xa (pv 3)) (pa_cons (pe_bltn (v := .ty "bool") (u := .type "bool") (by rfl) T.f_bool (by decide +kernel) rfl) pa_nil)))) (pw_or1 (pt_cmpR op_ne (pe_xa (pv 3)) (pe_op op_add (pv 1) (pv 2)) (nomark _))))).pt (pss_one (ps_ret pe_bl)) pss_nil)
      (pss_one (ps_if (pt_cmpR (op_neD hu) (pe_callSp C_law_kinds (hr.mono (by decide)) (by rfl) (pa_cons (pv 3) pa_nil)) (pe_lc (own := [("j", 5)]) (g := gName 5) (tt := tYes) (te := (tOp _ (tVar 5) (tVar 2))) rfl sc_law.nd (pi_range1 rfl T.f_range (pa_cons pe_int pa_nil)) (blkOk_by (N := ["script", "number", "k", "e", "base", "j"]) (sc := (defScope s_law)) (by decide +kernel)) (fun _ _ _ _ _ => (pg_name (i := 5) sc_law.nd rfl (Or.inl rfl))) (fun _ _ _ _ _ => pts_nil) (fun _ _ _ _ _ => (pe_cmpR op_eq (pv 5) (pv 2) (nomark _)))) (nomark _)) (pss_one (ps_ret pe_bl)) pss_nil)))))))
      (pss_cons (ps_set (i := 4) sc_law.nd rfl (Or.inl rfl) (pe_new T.e_ScreenError C_ErrI (hr.mono (by decide)) (by rfl) T.g_ScreenError (pv 1)))
      (pss_one (ps_ret (pe_and (pe_cmpR op_eq (pe_xa (pv 4)) (pv 1) (nomark _)) (pe_one (pe_cmpR (op_eqD hu) (pe_callSp C_law_kinds (hr.mono (by decide)) (by rfl) (pa_cons (pv 4) pa_nil)) (pe_lc (own := [("j", 5)]) (g := gName 5) (tt := tYes) (te := (tC (.bl false))) rfl sc_law.nd (pi_range1 rfl T.f_range (pa_cons pe_int pa_nil)) (blkOk_by (N := ["script", "number", "k", "e", "base", "j"]) (sc := (defScope s_law)) (by decide +kernel)) (fun _ _ _ _ _ => (pg_name (i := 5) sc_law.nd rfl (Or.inl rfl))) (fun _ _ _ _ _ => pts_nil) (fun _ _ _ _ _ => pe_bl)) (nomark _)))))))))), body_L (N := ["script", "number", "k", "e", "base", "j"]) (by decide) h fun ns hn => ?_⟩
  refine sd_setq (d := .int 0) xd_int ?_
  show SD K _ _ [.sq (ns.map V.int), .dt (.int 0), .no, .no, .no, .no] _ _

  obtain ⟨n, hnum⟩ : ∃ n : Int, n = if decide (0 < ((ns.map V.int).length : Int)) then ns.getD 0 0 % 10 ^ 30 - 10 ^ 15 else 0 := ⟨_, rfl⟩
  have hnb : -(10 ^ 15) ≤ n ∧ n ≤ 10 ^ 30 := by
    rw [hnum]
    have h1 := Int.emod_nonneg (ns.getD 0 0) (show (10 ^ 30 : Int) ≠ 0 by decide)
    have h2 := Int.emod_lt_of_pos (ns.getD 0 0) (show (0 : Int) < 10 ^ 30 by decide)
    split
    · omega
    · exact ⟨by decide, by decide⟩
  refine sd_ifsetI (x1 := ns.getD 0 0 % 10 ^ 30 - 10 ^ 15) (xt_test (xd_B0 (xd_lenQ rfl) xd_int)) rfl (fun hb => xd_I0 (xd_I (xd_cb (xa_cons (xd_ixQ rfl xd_int ⟨by decide, ?_⟩) xa_nil) rc_int) (xd_I xd_int xd_int ⟨by decide, by decide, by decide⟩) (by decide)) (xd_I xd_int xd_int ⟨by decide, by decide, by decide⟩)) ?_
  · have : 0 < ((ns.map V.int).length : Int) := of_decide_eq_true hb
    rw [List.length_map] at this
    exact this
  rw [← hnum]
  show SD K _ _ [.sq (ns.map V.int), .dt (.int n), .no, .no, .no, .no] _ _

  refine sd_forq (fun i q => ∃ s2 s3 s4 s5 : Sl, q = [.sq (ns.map V.int), .dt (.int n), s2, s3, s4, s5]) (xi_rng1 (n := 5) (xa_cons xd_int xa_nil) (by decide)) ⟨_, _, _, _, rfl⟩ (fun i q hi hI => ?_) (fun q hI => ?_)
  · obtain ⟨s2, s3, s4, s5, rfl⟩ := hI
    have hi' : i < 5 := hi
    have A := kind_at T i hi'
    have hlog : (n + i).natAbs.log2 < 1900 := log_ok ⟨by omega, by omega⟩
    refine ⟨_, _, xg_name 2, ?_⟩
    show SD K _ _ [.sq (ns.map V.int), .dt (.int n), .dt (.int (i : Int)), s3, s4, s5] _ _

    refine sd_setS (x := firstX K i (n + i)) (xs_call (xa_cons (xd_var rfl) (xa_cons (xd_I0 (xd_var rfl) (xd_var rfl)) xa_nil)) rfl ⟨i, n + i, rfl, hlog, rfl⟩) ?_
    show SD K _ _ [.sq (ns.map V.int), .dt (.int n), .dt (.int (i : Int)), firstX K i (n + i), s4, s5] _ _

    refine sd_seq (M := fun q => q = [.sq (ns.map V.int), .dt (.int n), .dt (.int (i : Int)), xv (cl K i) (n + i), s4, s5]) (sd_if (xt_test (xd_B0 (xd_var rfl) xd_int)) (fun hb => ?_) (fun hb => ?_)) ?_
    · refine sd_asgS (x := secondX K i (n + i)) (xs_call (xa_cons (xd_var rfl) (xa_cons (xd_I0 (xd_var rfl) (xd_var rfl)) xa_nil)) rfl ⟨i, n + i, rfl, hlog, rfl⟩) ?_
      have : (3 : Int) ≤ i := of_decide_eq_true hb
      rw [A.s _ (by omega)]
      rfl
    · have : ¬ (3 : Int) ≤ i := of_decide_eq_false hb
      exact sd_next (by rw [A.f _ (by omega)])
    rintro _ rfl
    refine sd_ifr (b := false) (xt_or (a := false) (b := false) ((xt_not (xt_B (x_isx rfl A.isx ref_rel A.scr))).is rfl) fun _ => (xt_not (xt_B (x_isx rfl A.isx ty_rel A.val))).is rfl) (fun h => nomatch h) (fun _ => ?_)
    refine sd_ifr (b := false) (xt_or (a := false) (b := false) ((xt_not (xt_B (xd_isint (x_at1 rfl A.xf A.noAt)))).is rfl) fun _ => xt_or (a := false) (b := false) ((xt_B (xd_isbool (x_at1 rfl A.xf A.noAt))).is rfl) fun _ =>
      (xt_test (xd_neI (x_at1 rfl A.xf A.noAt) (xd_I0 (xd_var rfl) (xd_var rfl)))).is (by simp)) (fun h => nomatch h) (fun _ => ?_)
    have ht : tame (.list ((List.range 5).map fun (j : Nat) => PyData.bool (decide ((j : Int) = (i : Int))))) = true := rfl
    have hsh := shaped_of ht (by show 1 ≤ 60; decide)
    refine sd_if (b := false) (xt_test ((xd_neD (xd_callX rfl (A.kinds _)) (xo_lcR (n := 5) (g := fun (j : Nat) => decide ((j : Int) = (i : Int))) (h := PyData.bool) (xa_cons xd_int xa_nil) (by decide) fun j hj => xd_eqI (xd_var rfl) (xd_var rfl)).xd hsh hsh).is (congrArg (fun b => PyData.bool (!b)) (eqv_same ht)))) (fun h => nomatch h) (fun _ => sd_next ⟨_, _, _, _, rfl⟩)
  · obtain ⟨s2, s3, s4, s5, rfl⟩ := hI
    refine sd_setS (x := xv (He.ga K "ScreenError") n) (xs_mk T.e_ScreenError (xd_var rfl) (log_ok ⟨by omega, by omega⟩)) ?_
    show SD K _ _ [.sq (ns.map V.int), .dt (.int n), s2, s3, xv (He.ga K "ScreenError") n, s5] _ _

    have ht : tame (.list [.bool false, .bool false, .bool false, .bool false, .bool false]) = true := rfl
    have hsh := shaped_of ht (by show 1 ≤ 60; decide)
    exact sd_ret ((xd_and (a := true) (b := true) ((xd_eqI (x_at1 rfl T.e_ScreenError.xf T.e_ScreenError.noAt) (xd_var rfl)).is (by simp)) fun _ =>
      (xd_eqD (xd_callX rfl ⟨_, _, _, _, _, T.i_ScreenError, T.k_ScreenError_OutOfRange, T.k_ScreenError_NotADeed, T.k_ScreenError_OtherSize, T.k_ScreenError_NoStep, T.k_ScreenError_NoMove, rfl⟩) (xo_lcR (n := 5) (g := fun _ => false) (h := PyData.bool) (xa_cons xd_int xa_nil) (by decide) fun j hj => xd_bl).xd hsh hsh).is (by rw [show (List.range (5 : Int).toNat).map (fun _ => false) = [false, false, false, false, false] from rfl]; exact congrArg PyData.bool (eqv_same ht))).is rfl) rfl

def d0 : He.DefD := ⟨("ScreenError", some "__init__"), "__init__", "ScreenError.__init__", defArgs s_ScreenError_init, defBody s_ScreenError_init, defScope s_ScreenError_init, [], []⟩
def d1 : He.DefD := ⟨("_law_first", none), "_law_first", "_law_first", defArgs s_law_first, defBody s_law_first, defScope s_law_first, [], []⟩
def d2 : He.DefD := ⟨("_law_second", none), "_law_second", "_law_second", defArgs s_law_second, defBody s_law_second, defScope s_law_second, [], []⟩
def d3 : He.DefD := ⟨("_law_kinds", none), "_law_kinds", "_law_kinds", defArgs s_law_kinds, defBody s_law_kinds, defScope s_law_kinds, [], []⟩
def d4 : He.DefD := ⟨("law", none), "law", "law", defArgs s_law, defBody s_law, defScope s_law, [], []⟩
def fn : List He.DefD := [d0, d1, d2, d3, d4]
def fa : List He.Fa := [.glo "_law_first", .glo "_law_second", .glo "_law_kinds", .glo "law", .glo "ScreenError", .glo "OutOfRange", .glo "NotADeed", .glo "OtherSize", .glo "NoStep", .glo "NoMove", .free "len", .free "int", .free "isinstance", .free "range", .free "bool", .free "ValueError"]
def kits (K : PySem.W.Frag) : List Bool := [isxB K (He.ga K "ScreenError"),
  decide (PySem.W.kitOne K (.ref (He.ga K "ScreenError")) (.type "ValueError") = some true),
  decide (PySem.W.kitOne K (.ref (He.ga K "ScreenError")) (.ref (He.ga K "ScreenError")) = some true),
  decide (PySem.W.kitOne K (.ref (He.ga K "ScreenError")) (.ref (He.ga K "OutOfRange")) = some false),
  decide (PySem.W.kitOne K (.ref (He.ga K "ScreenError")) (.ref (He.ga K "NotADeed")) = some false),
  decide (PySem.W.kitOne K (.ref (He.ga K "ScreenError")) (.ref (He.ga K "OtherSize")) = some false),
  decide (PySem.W.kitOne K (.ref (He.ga K "ScreenError")) (.ref (He.ga K "NoStep")) = some false),
  decide (PySem.W.kitOne K (.ref (He.ga K "ScreenError")) (.ref (He.ga K "NoMove")) = some false),
  isxB K (He.ga K "OutOfRange"),
  decide (PySem.W.kitOne K (.ref (He.ga K "OutOfRange")) (.type "ValueError") = some true),
  decide (PySem.W.kitOne K (.ref (He.ga K "OutOfRange")) (.ref (He.ga K "ScreenError")) = some true),
  decide (PySem.W.kitOne K (.ref (He.ga K "OutOfRange")) (.ref (He.ga K "OutOfRange")) = some true),
  decide (PySem.W.kitOne K (.ref (He.ga K "OutOfRange")) (.ref (He.ga K "NotADeed")) = some false),
  decide (PySem.W.kitOne K (.ref (He.ga K "OutOfRange")) (.ref (He.ga K "OtherSize")) = some false),
  decide (PySem.W.kitOne K (.ref (He.ga K "OutOfRange")) (.ref (He.ga K "NoStep")) = some false),
  decide (PySem.W.kitOne K (.ref (He.ga K "OutOfRange")) (.ref (He.ga K "NoMove")) = some false),
  isxB K (He.ga K "NotADeed"),
  decide (PySem.W.kitOne K (.ref (He.ga K "NotADeed")) (.type "ValueError") = some true),
  decide (PySem.W.kitOne K (.ref (He.ga K "NotADeed")) (.ref (He.ga K "ScreenError")) = some true),
  decide (PySem.W.kitOne K (.ref (He.ga K "NotADeed")) (.ref (He.ga K "OutOfRange")) = some false),
  decide (PySem.W.kitOne K (.ref (He.ga K "NotADeed")) (.ref (He.ga K "NotADeed")) = some true),
  decide (PySem.W.kitOne K (.ref (He.ga K "NotADeed")) (.ref (He.ga K "OtherSize")) = some false),
  decide (PySem.W.kitOne K (.ref (He.ga K "NotADeed")) (.ref (He.ga K "NoStep")) = some false),
  decide (PySem.W.kitOne K (.ref (He.ga K "NotADeed")) (.ref (He.ga K "NoMove")) = some false),
  isxB K (He.ga K "OtherSize"),
  decide (PySem.W.kitOne K (.ref (He.ga K "OtherSize")) (.type "ValueError") = some true),
  decide (PySem.W.kitOne K (.ref (He.ga K "OtherSize")) (.ref (He.ga K "ScreenError")) = some true),
  decide (PySem.W.kitOne K (.ref (He.ga K "OtherSize")) (.ref (He.ga K "OutOfRange")) = some false),
  decide (PySem.W.kitOne K (.ref (He.ga K "OtherSize")) (.ref (He.ga K "NotADeed")) = some false),
  decide (PySem.W.kitOne K (.ref (He.ga K "OtherSize")) (.ref (He.ga K "OtherSize")) = some true),
  decide (PySem.W.kitOne K (.ref (He.ga K "OtherSize")) (.ref (He.ga K "NoStep")) = some false),
  decide (PySem.W.kitOne K (.ref (He.ga K "OtherSize")) (.ref (He.ga K "NoMove")) = some false),
  isxB K (He.ga K "NoStep"),
  decide (PySem.W.kitOne K (.ref (He.ga K "NoStep")) (.type "ValueError") = some true),
  decide (PySem.W.kitOne K (.ref (He.ga K "NoStep")) (.ref (He.ga K "ScreenError")) = some true),
  decide (PySem.W.kitOne K (.ref (He.ga K "NoStep")) (.ref (He.ga K "OutOfRange")) = some false),
  decide (PySem.W.kitOne K (.ref (He.ga K "NoStep")) (.ref (He.ga K "NotADeed")) = some false),
  decide (PySem.W.kitOne K (.ref (He.ga K "NoStep")) (.ref (He.ga K "OtherSize")) = some false),
  decide (PySem.W.kitOne K (.ref (He.ga K "NoStep")) (.ref (He.ga K "NoStep")) = some true),
  decide (PySem.W.kitOne K (.ref (He.ga K "NoStep")) (.ref (He.ga K "NoMove")) = some false),
  isxB K (He.ga K "NoMove"),
  decide (PySem.W.kitOne K (.ref (He.ga K "NoMove")) (.type "ValueError") = some true),
  decide (PySem.W.kitOne K (.ref (He.ga K "NoMove")) (.ref (He.ga K "ScreenError")) = some true),
  decide (PySem.W.kitOne K (.ref (He.ga K "NoMove")) (.ref (He.ga K "OutOfRange")) = some false),
  decide (PySem.W.kitOne K (.ref (He.ga K "NoMove")) (.ref (He.ga K "NotADeed")) = some false),
  decide (PySem.W.kitOne K (.ref (He.ga K "NoMove")) (.ref (He.ga K "OtherSize")) = some false),
  decide (PySem.W.kitOne K (.ref (He.ga K "NoMove")) (.ref (He.ga K "NoStep")) = some false),
  decide (PySem.W.kitOne K (.ref (He.ga K "NoMove")) (.ref (He.ga K "NoMove")) = some true)]
def exk (K : PySem.W.Frag) : Bool := (kits K).all id && vvB K && excB K "ScreenError" "ScreenError" && excB K "OutOfRange" "ScreenError" && excB K "NotADeed" "ScreenError" && excB K "OtherSize" "ScreenError" && excB K "NoStep" "ScreenError" && excB K "NoMove" "ScreenError"
def ls : List PySem.Str := [PySem.Str.ofString "ScreenError", PySem.Str.ofString "OutOfRange", PySem.Str.ofString "NotADeed", PySem.Str.ofString "OtherSize", PySem.Str.ofString "NoStep", PySem.Str.ofString "NoMove", PySem.Str.ofString "_law_first", PySem.Str.ofString "_law_second", PySem.Str.ofString "_law_kinds"]
abbrev R : PySem.W.OpenRow := PySem.W.OpenLaw.row PySem.Challenge.rw_samescreen_k07_errors_are_apart
abbrev hk : PySem.W.Hook := hookY 5 fa fn exk
def ob (s : PySem.W.SharedT) : AlY := obsY 5 fa fn exk (HandSHeadRun.getT s)
theorem ob_eq (s : PySem.W.SharedT) : ob s = hk.obs s.abs := obsY_eq (HandSHeadRun.getT_eq s)
theorem run (w : World) : HandSHeadRun.RunEq R (PySem.W.view R.prog [11]) hk ob 4000 ls w := by
  intro os
  kernel_rfl
theorem facts {Pg : Program} {w : World} {K : PySem.W.Frag} {h : Heap} {mg : Str → Option Value} {f : Addr} (X : K.In h) (G : h.Ns mainGlobals mg) (hfa : mg ("law" : Str) = some (.ref f)) (c : He.SaysD fa fn K) (hx : exk K = true) :
    ∃ fd : FuncData, (∀ (s : Shared) (u : Value), BindsTo s fd ⟨[u], []⟩ [("script", u)]) ∧ ∀ g : Heap, K.In g → g.Ns mainGlobals mg → AtTop Pg w K mg g f fd "script" (spTop K) := by
  obtain ⟨hx, hx_NoMove⟩ := He.ba hx
  obtain ⟨hx, hx_NoStep⟩ := He.ba hx
  obtain ⟨hx, hx_OtherSize⟩ := He.ba hx
  obtain ⟨hx, hx_NotADeed⟩ := He.ba hx
  obtain ⟨hx, hx_OutOfRange⟩ := He.ba hx
  obtain ⟨hx, hx_ScreenError⟩ := He.ba hx
  obtain ⟨hx, hxv⟩ := He.ba hx
  have hk1 : ∀ (i : Nat) {b : Bool}, (kits K)[i]? = some b → b = true := fun i b e => List.all_eq_true.mp hx b (List.mem_of_getElem? e)
  have T : Txt K mg := {
    f_len := He.free_ok X G (c.fact 10 (f := .free "len") rfl)
    f_int := He.free_ok X G (c.fact 11 (f := .free "int") rfl)
    f_isinstance := He.free_ok X G (c.fact 12 (f := .free "isinstance") rfl)
    f_range := He.free_ok X G (c.fact 13 (f := .free "range") rfl)
    f_bool := He.free_ok X G (c.fact 14 (f := .free "bool") rfl)
    f_ValueError := He.free_ok X G (c.fact 15 (f := .free "ValueError") rfl)
    vV := vvB_ok hxv
    g_ScreenError := He.glo_ok X G (c.fact 4 (f := .glo "ScreenError") rfl)
    e_ScreenError := excB_err hx_ScreenError
    x_ScreenError := excB_exm hx_ScreenError
    g_OutOfRange := He.glo_ok X G (c.fact 5 (f := .glo "OutOfRange") rfl)
    e_OutOfRange := excB_err hx_OutOfRange
    x_OutOfRange := excB_exm hx_OutOfRange
    g_NotADeed := He.glo_ok X G (c.fact 6 (f := .glo "NotADeed") rfl)
    e_NotADeed := excB_err hx_NotADeed
    x_NotADeed := excB_exm hx_NotADeed
    g_OtherSize := He.glo_ok X G (c.fact 7 (f := .glo "OtherSize") rfl)
    e_OtherSize := excB_err hx_OtherSize
    x_OtherSize := excB_exm hx_OtherSize
    g_NoStep := He.glo_ok X G (c.fact 8 (f := .glo "NoStep") rfl)
    e_NoStep := excB_err hx_NoStep
    x_NoStep := excB_exm hx_NoStep
    g_NoMove := He.glo_ok X G (c.fact 9 (f := .glo "NoMove") rfl)
    e_NoMove := excB_err hx_NoMove
    x_NoMove := excB_exm hx_NoMove
    i_ScreenError := isxB_ok (hk1 0 rfl)
    v_ScreenError := of_decide_eq_true (hk1 1 rfl)
    k_ScreenError_ScreenError := of_decide_eq_true (hk1 2 rfl)
    k_ScreenError_OutOfRange := of_decide_eq_true (hk1 3 rfl)
    k_ScreenError_NotADeed := of_decide_eq_true (hk1 4 rfl)
    k_ScreenError_OtherSize := of_decide_eq_true (hk1 5 rfl)
    k_ScreenError_NoStep := of_decide_eq_true (hk1 6 rfl)
    k_ScreenError_NoMove := of_decide_eq_true (hk1 7 rfl)
    i_OutOfRange := isxB_ok (hk1 8 rfl)
    v_OutOfRange := of_decide_eq_true (hk1 9 rfl)
    k_OutOfRange_ScreenError := of_decide_eq_true (hk1 10 rfl)
    k_OutOfRange_OutOfRange := of_decide_eq_true (hk1 11 rfl)
    k_OutOfRange_NotADeed := of_decide_eq_true (hk1 12 rfl)
    k_OutOfRange_OtherSize := of_decide_eq_true (hk1 13 rfl)
    k_OutOfRange_NoStep := of_decide_eq_true (hk1 14 rfl)
    k_OutOfRange_NoMove := of_decide_eq_true (hk1 15 rfl)
    i_NotADeed := isxB_ok (hk1 16 rfl)
    v_NotADeed := of_decide_eq_true (hk1 17 rfl)
    k_NotADeed_ScreenError := of_decide_eq_true (hk1 18 rfl)
    k_NotADeed_OutOfRange := of_decide_eq_true (hk1 19 rfl)
    k_NotADeed_NotADeed := of_decide_eq_true (hk1 20 rfl)
    k_NotADeed_OtherSize := of_decide_eq_true (hk1 21 rfl)
    k_NotADeed_NoStep := of_decide_eq_true (hk1 22 rfl)
    k_NotADeed_NoMove := of_decide_eq_true (hk1 23 rfl)
    i_OtherSize := isxB_ok (hk1 24 rfl)
    v_OtherSize := of_decide_eq_true (hk1 25 rfl)
    k_OtherSize_ScreenError := of_decide_eq_true (hk1 26 rfl)
    k_OtherSize_OutOfRange := of_decide_eq_true (hk1 27 rfl)
    k_OtherSize_NotADeed := of_decide_eq_true (hk1 28 rfl)
    k_OtherSize_OtherSize := of_decide_eq_true (hk1 29 rfl)
    k_OtherSize_NoStep := of_decide_eq_true (hk1 30 rfl)
    k_OtherSize_NoMove := of_decide_eq_true (hk1 31 rfl)
    i_NoStep := isxB_ok (hk1 32 rfl)
    v_NoStep := of_decide_eq_true (hk1 33 rfl)
    k_NoStep_ScreenError := of_decide_eq_true (hk1 34 rfl)
    k_NoStep_OutOfRange := of_decide_eq_true (hk1 35 rfl)
    k_NoStep_NotADeed := of_decide_eq_true (hk1 36 rfl)
    k_NoStep_OtherSize := of_decide_eq_true (hk1 37 rfl)
    k_NoStep_NoStep := of_decide_eq_true (hk1 38 rfl)
    k_NoStep_NoMove := of_decide_eq_true (hk1 39 rfl)
    i_NoMove := isxB_ok (hk1 40 rfl)
    v_NoMove := of_decide_eq_true (hk1 41 rfl)
    k_NoMove_ScreenError := of_decide_eq_true (hk1 42 rfl)
    k_NoMove_OutOfRange := of_decide_eq_true (hk1 43 rfl)
    k_NoMove_NotADeed := of_decide_eq_true (hk1 44 rfl)
    k_NoMove_OtherSize := of_decide_eq_true (hk1 45 rfl)
    k_NoMove_NoStep := of_decide_eq_true (hk1 46 rfl)
    k_NoMove_NoMove := of_decide_eq_true (hk1 47 rfl) }
  obtain ⟨fd_law_first, F_law_first⟩ := c.def_ 1 (d := d1) rfl
  obtain ⟨fd_law_second, F_law_second⟩ := c.def_ 2 (d := d2) rfl
  obtain ⟨fd_law_kinds, F_law_kinds⟩ := c.def_ 3 (d := d3) rfl
  obtain ⟨fd_ErrI, F_ErrI⟩ := c.def_ 0 (d := d0) rfl
  obtain ⟨fd, F⟩ := c.def_ 4 (d := d4) rfl
  have e := hfa.symm.trans (He.glo_ok X G (c.fact 3 (f := .glo "law") rfl))
  cases e
  have b := FunD.bindsA (ps := ["script"]) F fun _ _ _ _ _ _ us hl => match us, hl with | [_], _ => rfl
  refine ⟨fd, fun s v => b s [v] rfl, fun g _ _ => ?_⟩
  have C_ErrI : CalI Pg w K mg g (He.ma K (He.ga K "ScreenError") "__init__") 1 := ⟨_, _, (FunD.bindsN (ps := ["self", "at"]) F_ErrI fun _ _ _ _ _ _ us hl => match us, hl with | [_, _], _ => rfl), ok_ErrInit T F_ErrI⟩
  have C_law_first : CalS Pg w K mg g "_law_first" 3 (spS K 2 (P_first K)) := ⟨_, _, _, (He.glo_ok X G (c.fact 0 (f := .glo "_law_first") rfl)), F_law_first.kp, (FunD.bindsN (ps := ["k", "n"]) F_law_first fun _ _ _ _ _ _ us hl => match us, hl with | [_, _], _ => rfl), ok_law_first (T := T) (C_ErrI := C_ErrI) (F := F_law_first)⟩
  have C_law_second : CalS Pg w K mg g "_law_second" 3 (spS K 2 (P_second K)) := ⟨_, _, _, (He.glo_ok X G (c.fact 1 (f := .glo "_law_second") rfl)), F_law_second.kp, (FunD.bindsN (ps := ["k", "n"]) F_law_second fun _ _ _ _ _ _ us hl => match us, hl with | [_, _], _ => rfl), ok_law_second (T := T) (C_ErrI := C_ErrI) (F := F_law_second)⟩
  have C_law_kinds : CalS Pg w K mg g "_law_kinds" 1 (spX K (P_kinds K)) := ⟨_, _, _, (He.glo_ok X G (c.fact 2 (f := .glo "_law_kinds") rfl)), F_law_kinds.kp, (FunD.bindsN (ps := ["e"]) F_law_kinds fun _ _ _ _ _ _ us hl => match us, hl with | [_], _ => rfl), ok_law_kinds (T := T) (F := F_law_kinds)⟩
  exact at_law (T := T) (C_ErrI := C_ErrI) (C_law_first := C_law_first) (C_law_second := C_law_second) (C_law_kinds := C_law_kinds) (F := F)
end My
open PySem PySem.W PySem.Calls PyProof.Rows
theorem PySem.Challenge.cw_samescreen_k07_errors_are_apart_holds : PySem.Challenge.rw_samescreen_k07_errors_are_apart.Holds := by
  w_on; o_law
  refine HandSHeadRun.head_any (r := OpenLaw.row PySem.Challenge.rw_samescreen_k07_errors_are_apart) (q := view (OpenLaw.row PySem.Challenge.rw_samescreen_k07_errors_are_apart).prog [11]) (H := My.hk) (ob := My.ob) (M := 4000) (loose := My.ls) (d := HandSHeadRun.topDef (OpenLaw.row PySem.Challenge.rw_samescreen_k07_errors_are_apart).prog 11) (kwd := []) My.ob_eq
    (by kernel_rfl) (fun s => by kernel_rfl) My.run (by kernel_rfl) (by kernel_rfl) (by kernel_rfl) (by rfl) (by first | assumption | decide +kernel) (by decide +kernel) ⟨rfl, rfl, rfl, rfl, rfl, by decide +kernel⟩ ?hw ?hc
  case hw => w_witness2
  case hc =>
    refine DD.walk_top (l := PySem.Challenge.rw_samescreen_k07_errors_are_apart) (n := 63) (x := "script") rfl (by decide) (by kernel_rfl) ?F
    intro w mg fa h Y G hmg0
    obtain ⟨K, KX, c, hx⟩ := Y
    have hmg : mg ("law" : PySem.Str) = some (.ref fa) := by
      have e : (HandSHeadRun.topDef (OpenLaw.row PySem.Challenge.rw_samescreen_k07_errors_are_apart).prog 11).name = ("law" : PySem.Str) := by kernel_rfl
      rw [← e]
      exact hmg0
    obtain ⟨fd, hb, hF⟩ := My.facts (Pg := (PySem.Challenge.rw_samescreen_k07_errors_are_apart).prog) (w := w) KX G hmg c hx
    exact ⟨K, fd, DD.spTop K, KX, hb, fun H a ns hl hS => ⟨a, ns, rfl, hS, hl, fun _ => rfl⟩, hF⟩
#print axioms PySem.Challenge.cw_samescreen_k07_errors_are_apart_holds
