import PyProof.Rows.All
import Wide.All
import OpenK.AllK
import Wide.FinOn
import PyProof.GenQ
import HandS.ForMost
import HandS.GenList
import HandS.ExcInit
import HandS.ExcIs
import HandS.ExcField
import HandS.Property
import KE.KExcInit
import HandS.IsInst
import HandS.Lambda
import KE.KDflt
import HandS.Deep
import HandS.SetFor
import HandS.EndTab
import PyProof.ReprRoads
import HandS.Style
import HandS.Flow
import HandS.Wide
import HandS.Small
import HandS.More
import HandS.WordsExc
import KE.KNestM
import KE.KExcLine
import KE.RegKIsAll
import PySem.Challenge.RW_entryhall_k10_sizes_and_capacities
set_option Elab.async false
set_option linter.all false
set_option maxRecDepth 100000
set_option maxHeartbeats 1000000
/-! Fk: a run that wakes none of the generators that slept when it began leaves them as they were. Those that sleep are replaced by ones that look alike and cannot be woken;
a run over the replaced ones is a run over the real ones. -/
namespace Fk
open PySem
open Sem (wp)

/-- looks alike, cannot be woken -/
def fk : GenState → GenState
  | .suspended _ l c p fs cl => .suspended (fun _ => .unsupported "") l c p fs cl
  | x => x
theorem fk_seen (x : GenState) : (fk x).seen = x.seen := by cases x <;> rfl
theorem fk_bare (x : GenState) : (fk x).bare = x.bare := by cases x <;> rfl
def isSusp : GenState → Bool
  | .suspended .. => true
  | _ => false
def plainG : GenState → Prop
  | .suspended _ _ _ _ fs _ => splitAtGen fs = none
  | _ => True
def plainE : End → Prop
  | .susp _ _ _ _ _ _ fs => splitAtGen fs = none
  | .ret _ => True
theorem plainG_end {e : End} (h : plainE e) : plainG e.genState := by cases e <;> first | exact h | trivial
/-- F: which of them are replaced, by their places: what they are in truth. a: the replaced ones; b: the real ones -/
structure Rel (F : Nat → Option GenState) (a b : Array GenState) : Prop where
  size : b.size = a.size
  fake : ∀ (i : Nat) x, F i = some x → isSusp x = true ∧ a[i]? = some (fk x) ∧ b[i]? = some x
  same : ∀ (i : Nat), F i = none → b[i]? = a[i]?
  plain : ∀ (i : Nat) x, F i = none → a[i]? = some x → plainG x
variable {F : Nat → Option GenState} {a b : Array GenState}
theorem Rel.push (h : Rel F a b) (c : Code) : Rel F (a.push (.fresh c)) (b.push (.fresh c)) := by
  refine ⟨by simp [h.size], fun i x e => ?_, fun i e => ?_, fun i x e hx => ?_⟩
  · obtain ⟨q, k, l⟩ := h.fake i x e
    have l1 : i < a.size := (Array.getElem?_eq_some_iff.mp k).1
    have l2 : i < b.size := (Array.getElem?_eq_some_iff.mp l).1
    exact ⟨q, by rw [Array.getElem?_push, if_neg (by omega)]; exact k, by rw [Array.getElem?_push, if_neg (by omega)]; exact l⟩
  · rw [Array.getElem?_push, Array.getElem?_push, h.size, h.same i e]
  · rw [Array.getElem?_push] at hx
    split at hx
    · cases hx; trivial
    · exact h.plain i x e hx
theorem Rel.set (h : Rel F a b) {g : Nat} {x : GenState} (hF : F g = none) (hx : plainG x) : Rel F (a.setIfInBounds g x) (b.setIfInBounds g x) := by
  refine ⟨by simp [h.size], fun i y e => ?_, fun i e => ?_, fun i y e hy => ?_⟩
  · obtain ⟨q, k, l⟩ := h.fake i y e
    have ne : g ≠ i := fun z => by rw [z, e] at hF; cases hF
    exact ⟨q, by rw [Array.getElem?_setIfInBounds_ne ne]; exact k, by rw [Array.getElem?_setIfInBounds_ne ne]; exact l⟩
  · rw [Array.getElem?_setIfInBounds, Array.getElem?_setIfInBounds, h.size, h.same i e]
  · rw [Array.getElem?_setIfInBounds] at hy
    split at hy
    · split at hy
      · cases hy; exact hx
      · cases hy
    · exact h.plain i y e hy
theorem plain_app {a b : List Frame} (ha : splitAtGen a = none) (hb : splitAtGen b = none) : splitAtGen (a ++ b) = none := by
  induction a with
  | nil => exact hb
  | cons f t ih =>
    cases f with
    | ret k h g l c p kp =>
      have e : (splitAtGen t).map (fun x => (Frame.ret k h g l c p kp :: x.1, x.2.1, x.2.2)) = none := ha
      have e' : splitAtGen t = none := by
        cases q : splitAtGen t with
        | none => rfl
        | some z => rw [q] at e; cases e
      show (splitAtGen (t ++ b)).map (fun x => (Frame.ret k h g l c p kp :: x.1, x.2.1, x.2.2)) = none
      rw [ih e']; rfl
    | gen g k l c p => exact absurd (show some _ = none from ha) (fun z => nomatch z)
theorem plain_tail {k h g l c p kp} {fs : List Frame} (e : splitAtGen (.ret k h g l c p kp :: fs) = none) : splitAtGen fs = none := by
  have e : (splitAtGen fs).map (fun x => (Frame.ret k h g l c p kp :: x.1, x.2.1, x.2.2)) = none := e
  cases q : splitAtGen fs with
  | none => rfl
  | some z => rw [q] at e; cases e
variable {M : Model}
theorem no_unsup {Γ : Ctx} {p : Pos} {w : String} {fs : List Frame} {s s' : Shared} {e : End} (h : Runs M Γ p (.unsupported w) fs s e s') : False := by
  generalize ht : (Sem.unsupported w : Sem PySem.Fin) = t at h
  induction h <;> first | (cases ht; done) | (rename_i ih _; exact ih ht) | (rename_i ih _ _; exact ih ht) | (rename_i ih; exact ih ht)
/-- with other generators -/
abbrev gw (s : Shared) (G : Array GenState) : Shared := { s with gens := G }
/-- the run over the real ones -/
theorem runs_fk {Γ : Ctx} {p : Pos} {t : Sem PySem.Fin} {fs : List Frame} {s s' : Shared} {e : End} (h : Runs M Γ p t fs s e s') : splitAtGen fs = none → ∀ G, Rel F s.gens G →
    ∃ G', Runs M Γ p t fs (gw s G) e (gw s' G') ∧ Rel F s'.gens G' ∧ plainE e := by
  induction h with
  | done => intro _ G R; exact ⟨G, .done, R, trivial⟩
  | raise => intro _ G R; exact ⟨G, .raise, R, trivial⟩
  | again hq _ ih => intro hf G R; obtain ⟨r', h1, h2, h3⟩ := ih hf G R; exact ⟨r', .again hq h1, h2, h3⟩
  | rule _ ih => intro hf G R; obtain ⟨r', h1, h2, h3⟩ := ih hf G R; exact ⟨r', .rule h1, h2, h3⟩
  | «at» _ ih => intro hf G R; obtain ⟨r', h1, h2, h3⟩ := ih hf G R; exact ⟨r', .at h1, h2, h3⟩
  | load ho _ ih => intro hf G R; obtain ⟨r', h1, h2, h3⟩ := ih hf G R; exact ⟨r', .load ho h1, h2, h3⟩
  | update ha _ ih => intro hf G R; obtain ⟨r', h1, h2, h3⟩ := ih hf G R; exact ⟨r', .update ha h1, h2, h3⟩
  | loadIfAlive _ ih => intro hf G R; obtain ⟨r', h1, h2, h3⟩ := ih hf G R; exact ⟨r', .loadIfAlive h1, h2, h3⟩
  | point _ ih => intro hf G R; obtain ⟨r', h1, h2, h3⟩ := ih hf G R; exact ⟨r', .point h1, h2, h3⟩
  | alloc _ ih => intro hf G R; obtain ⟨r', h1, h2, h3⟩ := ih hf G R; exact ⟨r', .alloc h1, h2, h3⟩
  | fresh _ ih => intro hf G R; obtain ⟨r', h1, h2, h3⟩ := ih hf G R; exact ⟨r', .fresh h1, h2, h3⟩
  | ask _ ih => intro hf G R; obtain ⟨r', h1, h2, h3⟩ := ih hf G R; exact ⟨r', .ask h1, h2, h3⟩
  | choose hn _ ih => intro hf G R; obtain ⟨r', h1, h2, h3⟩ := ih hf G R; exact ⟨r', .choose hn h1, h2, h3⟩
  | os _ ih => intro hf G R; obtain ⟨r', h1, h2, h3⟩ := ih hf G R; exact ⟨r', .os h1, h2, h3⟩
  | handled _ ih => intro hf G R; obtain ⟨r', h1, h2, h3⟩ := ih hf G R; exact ⟨r', .handled h1, h2, h3⟩
  | @genState g st Γ p k s e s' hg hr ih =>
    intro hf G R
    obtain ⟨r', h1, h2, h3⟩ := ih hf G R
    cases q : F g with
    | none => exact ⟨r', .genState (by rw [← R.same g q] at hg; exact hg) h1, h2, h3⟩
    | some x =>
      obtain ⟨_, k1, k2⟩ := R.fake g x q
      rw [k1] at hg
      cases hg
      rw [fk_seen] at h1
      exact ⟨r', .genState k2 h1, h2, h3⟩
  | stack _ ih => intro hf G R; obtain ⟨r', h1, h2, h3⟩ := ih hf G R; exact ⟨r', .stack h1, h2, h3⟩
  | thread _ ih => intro hf G R; obtain ⟨r', h1, h2, h3⟩ := ih hf G R; exact ⟨r', .thread h1, h2, h3⟩
  | @newGen Γ p k s e s' c hr ih =>
    intro hf G R
    obtain ⟨r', h1, h2, h3⟩ := ih hf (G.push (.fresh c)) (R.push c)
    refine ⟨r', .newGen ?_, h2, h3⟩
    have := R.size
    rw [show (gw s G).gens.size = s.gens.size from R.size]
    exact h1
  | call _ _ ih1 ih2 =>
    intro hf G R
    obtain ⟨r1, h1, h2, _⟩ := ih1 rfl G R
    obtain ⟨r2, k1, k2, k3⟩ := ih2 hf r1 h2
    exact ⟨r2, .call h1 k1, k2, k3⟩
  | callSusp _ ih =>
    intro hf G R
    obtain ⟨r1, h1, h2, h3⟩ := ih rfl G R
    exact ⟨r1, .callSusp h1, h2, plain_app h3 rfl⟩
  | yield => intro hf G R; exact ⟨G, .yield, R, rfl⟩
  | @resumeFresh Γ p g l k s c e₁ s₁ e s' hg _ hq _ ih1 ih2 =>
    intro hf G R
    cases q : F g with
    | some x =>
      obtain ⟨z, k1, k2⟩ := R.fake g x q
      rw [k1] at hg
      cases x <;> first | (cases z; done) | (cases hg; done)
    | none =>
      obtain ⟨r1, h1, h2, h3⟩ := ih1 rfl (G.setIfInBounds g .running) (R.set q trivial)
      obtain ⟨r2, j1, j2, j3⟩ := ih2 hf (r1.setIfInBounds g e₁.genState) (h2.set q (plainG_end h3))
      exact ⟨r2, .resumeFresh (by rw [← R.same g q] at hg; exact hg) h1 hq j1, j2, j3⟩
  | @resumeSuspended Γ p g rr l k s k₀ l₀ c₀ p₀ fs cl e₁ s₁ e s' hg hr hq _ ih1 ih2 =>
    intro hf G R
    cases q : F g with
    | some x =>
      obtain ⟨z, k1, k2⟩ := R.fake g x q
      rw [k1] at hg
      cases x with
      | suspended a1 a2 a3 a4 a5 a6 =>
        cases hg
        exact (no_unsup hr).elim
      | _ => cases z
    | none =>
      have pl : splitAtGen fs = none := R.plain g _ q hg
      obtain ⟨r1, h1, h2, h3⟩ := ih1 pl (G.setIfInBounds g .running) (R.set q trivial)
      obtain ⟨r2, j1, j2, j3⟩ := ih2 hf (r1.setIfInBounds g e₁.genState) (h2.set q (plainG_end h3))
      exact ⟨r2, .resumeSuspended (by rw [← R.same g q] at hg; exact hg) h1 hq j1, j2, j3⟩
  | @resumeJustStarted g v Γ p k s e s' l c hg hv _ ih =>
    intro hf G R
    cases q : F g with
    | some x =>
      obtain ⟨z, k1, k2⟩ := R.fake g x q
      rw [k1] at hg
      cases x <;> first | (cases z; done) | (cases hg; done)
    | none =>
      obtain ⟨r2, j1, j2, j3⟩ := ih hf G R
      exact ⟨r2, .resumeJustStarted (by rw [← R.same g q] at hg; exact hg) hv j1, j2, j3⟩
  | @resumeThrowFresh g Γ p k e s' x l s c hg _ ih =>
    intro hf G R
    cases q : F g with
    | some x =>
      obtain ⟨z, k1, k2⟩ := R.fake g x q
      rw [k1] at hg
      cases x <;> first | (cases z; done) | (cases hg; done)
    | none =>
      obtain ⟨r2, j1, j2, j3⟩ := ih hf (G.setIfInBounds g .finished) (R.set q trivial)
      exact ⟨r2, .resumeThrowFresh (by rw [← R.same g q] at hg; exact hg) j1, j2, j3⟩
  | @resumeRunning g Γ p k s e s' r l hg _ ih =>
    intro hf G R
    cases q : F g with
    | some x =>
      obtain ⟨z, k1, k2⟩ := R.fake g x q
      rw [k1] at hg
      cases x <;> first | (cases z; done) | (cases hg; done)
    | none =>
      obtain ⟨r2, j1, j2, j3⟩ := ih hf G R
      exact ⟨r2, .resumeRunning (by rw [← R.same g q] at hg; exact hg) j1, j2, j3⟩
  | @resumeFinished g Γ p k s e s' r l hg _ ih =>
    intro hf G R
    cases q : F g with
    | some x =>
      obtain ⟨z, k1, k2⟩ := R.fake g x q
      rw [k1] at hg
      cases x <;> first | (cases z; done) | (cases hg; done)
    | none =>
      obtain ⟨r2, j1, j2, j3⟩ := ih hf G R
      exact ⟨r2, .resumeFinished (by rw [← R.same g q] at hg; exact hg) j1, j2, j3⟩
  | segRet _ _ ih1 ih2 =>
    intro hf G R
    obtain ⟨r1, h1, h2, _⟩ := ih1 rfl G R
    obtain ⟨r2, j1, j2, j3⟩ := ih2 (plain_tail hf) r1 h2
    exact ⟨r2, .segRet h1 j1, j2, j3⟩
  | segGen _ _ _ _ => intro hf; exact absurd (show some _ = none from hf) (fun z => nomatch z)
  | segSuspOut hs _ ih =>
    intro hf G R
    obtain ⟨r1, h1, h2, h3⟩ := ih rfl G R
    exact ⟨r1, .segSuspOut hs h1, h2, plain_app h3 hs⟩
  | segSuspGen hs _ _ _ _ _ => intro hf; rw [hf] at hs; cases hs

theorem returns_fk {Γ : Ctx} {p : Pos} {s s' : Shared} {r : Result} (h : Returns M Γ p s r s') {G : Array GenState} (R : Rel F s.gens G) : ∃ G', Returns M Γ p (gw s G) r (gw s' G') ∧ Rel F s'.gens G' := by
  obtain ⟨G', h1, h2, _⟩ := runs_fk h rfl G R
  exact ⟨G', h1, h2⟩
theorem wakes_fk {Γ : Ctx} {p : Pos} {g : Nat} {r : Resume} {s s' : Shared} {res : GenResult} (h : Wakes M Γ p g r s res s') {G : Array GenState} (R : Rel F s.gens G) : ∃ G', Wakes M Γ p g r (gw s G) res (gw s' G') ∧ Rel F s'.gens G' := by
  cases q : F g with
  | some x =>
    obtain ⟨z, k1, k2⟩ := R.fake g x q
    unfold Wakes at h
    rw [k1] at h
    cases x with
    | suspended a1 a2 a3 a4 a5 a6 =>
      obtain ⟨e₁, s₁, hr, _⟩ := h
      exact (no_unsup hr).elim
    | _ => cases z
  | none =>
    have hs := R.same g q
    unfold Wakes at h ⊢
    rw [show (gw s G).gens[g]? = s.gens[g]? from hs]
    cases hg : s.gens[g]? with
    | none => rw [hg] at h; exact h.elim
    | some gs =>
      rw [hg] at h
      cases gs with
      | fresh c =>
        cases r with
        | send v =>
          by_cases hv : v = Value.none
          · subst hv
            obtain ⟨e₁, s₁, hr, hq, hres, hs'⟩ := h
            obtain ⟨G1, h1, h2, h3⟩ := runs_fk hr rfl (G.setIfInBounds g .running) (R.set q trivial)
            subst hs'
            exact ⟨G1.setIfInBounds g e₁.genState, ⟨e₁, _, h1, hq, hres, rfl⟩, h2.set q (plainG_end h3)⟩
          · cases v <;> first | exact absurd rfl hv | (obtain ⟨h1, h2⟩ := h; subst h2; exact ⟨G, ⟨h1, rfl⟩, R⟩)
        | throw x =>
          obtain ⟨h1, h2⟩ := h
          subst h2
          exact ⟨G.setIfInBounds g .finished, ⟨h1, rfl⟩, R.set q trivial⟩
      | suspended k₀ l₀ c₀ p₀ fs cl =>
        obtain ⟨e₁, s₁, hr, hq, hres, hs'⟩ := h
        obtain ⟨G1, h1, h2, h3⟩ := runs_fk hr (R.plain g _ q hg) (G.setIfInBounds g .running) (R.set q trivial)
        subst hs'
        exact ⟨G1.setIfInBounds g e₁.genState, ⟨e₁, _, h1, hq, hres, rfl⟩, h2.set q (plainG_end h3)⟩
      | running => obtain ⟨h1, h2⟩ := h; subst h2; exact ⟨G, ⟨h1, rfl⟩, R⟩
      | finished => obtain ⟨h1, h2⟩ := h; subst h2; exact ⟨G, ⟨h1, rfl⟩, R⟩
/-- what holds over the replaced ones holds over the real ones -/
theorem wp_fk {α : Type} (F : Nat → Option GenState) (M : Model) (Γ : Ctx) (t : Sem α) : ∀ (Q : α → Pos → Shared → Prop) (E : Value → Pos → Shared → Prop) (p : Pos) (s : Shared) (G : Array GenState), Rel F s.gens G → wp M Γ t Q E p s →
    wp M Γ t (fun a p' s' => ∃ G0, Rel F G0 s'.gens ∧ Q a p' (gw s' G0)) (fun e p' s' => ∃ G0, Rel F G0 s'.gens ∧ E e p' (gw s' G0)) p (gw s G) := by
  induction t with
  | pure a => intro Q E p s G R h; exact ⟨s.gens, R, h⟩
  | raise e => intro Q E p s G R h; exact ⟨s.gens, R, h⟩
  | unsupported _ => intro Q E p s G _ h; exact h
  | finish _ => intro Q E p s G _ h; exact h
  | rule _ k ih => intro Q E p s G R h; exact ih () Q E p s G R h
  | «at» p' k ih => intro Q E p s G R h; exact ih () Q E p' s G R h
  | load a _ k ih => intro Q E p s G R h; obtain ⟨o, ho, h⟩ := h; exact ⟨o, ho, ih o Q E p s G R h⟩
  | update a _ f k ih => intro Q E p s G R h; exact ⟨h.1, ih () Q E p { s with heap := s.heap.update a f } G R h.2⟩
  | loadIfAlive a k ih => intro Q E p s G R h; exact ih _ Q E p s G R h
  | point _ k ih => intro Q E p s G R h; exact ih () Q E p s G R h
  | register _ _ => intro Q E p s G _ h; exact h
  | alloc o k ih => intro Q E p s G R h; exact ih _ Q E p { s with heap := s.heap.push o } G R h
  | fresh k ih => intro Q E p s G R h; exact ih _ Q E p { s with toks := s.toks + 1 } G R h
  | ask k ih => intro Q E p s G R h; exact ih _ Q E p s G R h
  | choose src m k ih => intro Q E p s G R h; exact ⟨h.1, ih _ Q E p { s with drawn := s.drawn.bump src } G R h.2⟩
  | os q _ k ih => intro Q E p s G R h; exact ih _ Q E p { s with os := (Os.step s.os q).1 } G R h
  | call c hd _ _ k ih =>
    intro Q E p s G R h
    obtain ⟨r, s', hr, h⟩ := h
    obtain ⟨G', h1, h2⟩ := returns_fk hr R
    exact ⟨r, _, h1, ih r Q E p s' G' h2 h⟩
  | handled own k ih => intro Q E p s G R h; exact ih _ Q E p s G R h
  | genState g k ih =>
    intro Q E p s G R h
    obtain ⟨st, hs, h⟩ := h
    cases q : F g with
    | none => exact ⟨st, by rw [← R.same g q] at hs; exact hs, ih _ Q E p s G R h⟩
    | some x =>
      obtain ⟨_, k1, k2⟩ := R.fake g x q
      rw [k1] at hs
      cases hs
      rw [fk_seen] at h
      exact ⟨x, k2, ih _ Q E p s G R h⟩
  | newGen c k ih =>
    intro Q E p s G R h
    have := ih _ Q E p _ _ (R.push c) h
    rw [← R.size] at this
    exact this
  | resume g r _ k ih =>
    intro Q E p s G R h
    obtain ⟨res, s', hw, h⟩ := h
    obtain ⟨G', h1, h2⟩ := wakes_fk hw R
    exact ⟨res, _, h1, ih res Q E p s' G' h2 h⟩
  | yield _ _ _ _ => intro Q E p s G _ h; exact h
  | stack k ih => intro Q E p s G R h; exact ih _ Q E p s G R h
  | fork _ _ => intro Q E p s G _ h; exact h
  | thread k ih => intro Q E p s G R h; exact ih _ Q E p s G R h
  | await _ _ _ _ _ => intro Q E p s G _ h; exact h
theorem wpAny_fk {α : Type} {M : Model} {A : Around} {t : Sem α} {Q : α → Shared → Prop} {E : Value → Shared → Prop} {s : Shared} {G : Array GenState} (R : Rel F s.gens G) (h : wpAny M A t Q E s) :
    wpAny M A t (fun a s' => ∃ G0, Rel F G0 s'.gens ∧ Q a (gw s' G0)) (fun e s' => ∃ G0, Rel F G0 s'.gens ∧ E e (gw s' G0)) (gw s G) := fun Γ p hΓ => wp_fk F M Γ t _ _ p s G R (h Γ p hΓ)
/-- all that sleep now -/
def sleepers (G : Array GenState) (i : Nat) : Option GenState := match G[i]? with
  | some x => if isSusp x = true then some x else none
  | none => none
def faked (G : Array GenState) : Array GenState := G.map fk
theorem rel_faked (G : Array GenState) : Rel (sleepers G) (faked G) G := by
  refine ⟨by simp [faked], fun i x e => ?_, fun i e => ?_, fun i x e hx => ?_⟩
  · unfold sleepers at e
    split at e
    · rename_i y hy
      split at e
      · rename_i hs
        cases e
        exact ⟨hs, by simp [faked, hy], hy⟩
      · cases e
    · cases e
  · unfold sleepers at e
    unfold faked
    rw [Array.getElem?_map]
    cases hy : G[i]? with
    | none => rfl
    | some y =>
      rw [hy] at e
      cases y <;> first | rfl | (simp [isSusp] at e)
  · unfold sleepers at e
    unfold faked at hx
    rw [Array.getElem?_map] at hx
    cases hy : G[i]? with
    | none => rw [hy] at hx; cases hx
    | some y =>
      rw [hy] at e hx
      cases hx
      cases y <;> first | trivial | (simp [isSusp] at e)
theorem bare_faked {G : Array GenState} (h : ∀ y ∈ G, y.bare = true) : ∀ y ∈ faked G, y.bare = true := fun y hy => by
  obtain ⟨x, hx, rfl⟩ := Array.mem_map.mp hy
  rw [fk_bare]; exact h x hx
theorem bare_real (h : Rel F a b) (hF : ∀ i x, F i = some x → x.bare = true) (ha : ∀ y ∈ a, y.bare = true) : ∀ y ∈ b, y.bare = true := fun y hy => by
  obtain ⟨i, hi, rfl⟩ := Array.mem_iff_getElem.mp hy
  have hb : b[i]? = some b[i] := Array.getElem?_eq_getElem hi
  cases q : F i with
  | some x =>
    obtain ⟨_, _, k2⟩ := h.fake i x q
    rw [k2] at hb
    have : x = b[i] := Option.some.inj hb
    rw [← this]; exact hF i x q
  | none =>
    have k := h.same i q
    rw [hb] at k
    have hi' : i < a.size := by rw [← h.size]; exact hi
    rw [Array.getElem?_eq_getElem hi'] at k
    have : b[i] = a[i] := Option.some.inj k
    rw [this]; exact ha _ (Array.getElem_mem hi')
theorem sleepers_at {G : Array GenState} {g : Nat} {x : GenState} (h : G[g]? = some x) (hs : isSusp x = true) : sleepers G g = some x := by
  unfold sleepers; rw [h]; simp [hs]
theorem sleepers_bare {G : Array GenState} (h : ∀ y ∈ G, y.bare = true) : ∀ i x, sleepers G i = some x → x.bare = true := fun i x e => by
  unfold sleepers at e
  split at e
  · rename_i y hy
    split at e
    · cases e; exact h _ (Array.mem_of_getElem? hy)
    · cases e
  · cases e
end Fk
set_option Elab.async false
set_option linter.all false
set_option maxRecDepth 100000
set_option maxHeartbeats 1000000
/-! Pth: the generator path, its turns over the machine's own rules -/
namespace Pth
open PySem PySem.Spec PyProof.Rows L2 GenW
/-! ### the text of the loop -/
abbrev stPush (p1 p2 p3 p4 p5 : Pos) : Stmt := .Assign [.Name "push" p1] (.BinOp (.Name "push" p2) .FloorDiv (.Name "PUSH_SHARE" p3) p4) p5
abbrev stSlot (p1 p2 p3 p4 p5 p6 p7 p8 p9 p10 p11 : Pos) (k1 k2 : Nat) : Stmt := .Assign [.Name "slot" p1] (.BinOp (.BinOp (.BinOp (.BinOp (.Constant (.int 5) k1 p2) .Mult (.Name "slot" p3) p4) .Add (.Name "push" p5) p6) .Add (.Constant (.int 1) k2 p7) p8) .Mod (.Name "size" p9) p10) p11
/-- what the walk asks of the env -/
structure PEnv (env : Env) : Prop where
  kind : env.scope.kind = .function
  co : env.scope.isCoroutine = false
  gl : env.globals = mainGlobals
  slot : env.kindOf "slot" = some .local
  push : env.kindOf "push" = some .local
  size : env.kindOf "size" = some .local
  low : env.kindOf "_" = some .local
  share : env.kindOf "PUSH_SHARE" = some .globalImplicit
/-- the frame's names -/
structure Fm (env : Env) (h : Heap) (size slot push : Int) : Prop where
  ns : ∃ m, h.Ns env.locals m ∧ (∃ t, m "slot" = some (.int slot t)) ∧ (∃ t, m "push" = some (.int push t)) ∧ ∃ t, m "size" = some (.int size t)
  gl : ∃ mg, h.Ns mainGlobals mg ∧ ∃ t, mg "PUSH_SHARE" = some (.int 32 t)
theorem Fm.keeps {env : Env} {h h' : Heap} {size slot push : Int} (x : Fm env h size slot push) (k : ∀ b o, (b = env.locals ∨ b = mainGlobals) → h.get? b = some o → h'.get? b = some o) : Fm env h' size slot push := by
  obtain ⟨⟨m, hn, r⟩, ⟨mg, hg, q⟩⟩ := x
  exact ⟨⟨m, hn.at' fun o e => k _ o (.inl rfl) e, r⟩, ⟨mg, hg.at' fun o e => k _ o (.inr rfl) e, q⟩⟩
section
variable {prog : Program} {w : World} {A : Around} {E : Value → Shared → Prop} {s : Shared} {env : Env} {size slot push : Int}
theorem nm {x : Str} {p : Pos} {m : Str → Option Value} {v : Value} {Q : Value → Shared → Prop} (T : PEnv env) (hk : env.kindOf x = some .local) (hn : s.heap.Ns env.locals m) (hm : m x = some v) (h : Q v s) (hd : (x == ("__debug__" : Str)) = false := by decide) :
    wpAny (model prog w) A (eval (.Name x p) env) Q E s := wpAny_Name (wpAny_loadName_local T.kind hk hn hm h) hd
/-- push = push // PUSH_SHARE -/
theorem run_push {p1 p2 p3 p4 p5 : Pos} {Q : Flow → Shared → Prop} (T : PEnv env) (hL : env.locals ≠ mainGlobals) (x : Fm env s.heap size slot push)
    (h : ∀ h' tk, Fm env h' size slot (push.fdiv 32) → (∀ b o, b ≠ env.locals → s.heap.get? b = some o → h'.get? b = some o) → Q .next { s with heap := h', toks := tk }) :
    wpAny (model prog w) A (exec (stPush p1 p2 p3 p4 p5) env) Q E s := by
  obtain ⟨⟨m, hn, ⟨t1, e1⟩, ⟨t2, e2⟩, ⟨t3, e3⟩⟩, ⟨mg, hg, ⟨t4, e4⟩⟩⟩ := x
  have h1 : (("slot" : Str) = "push") = False := by simp [show ¬ (("slot" : Str) = "push") by decide]
  have h2 : (("size" : Str) = "push") = False := by simp [show ¬ (("size" : Str) = "push") by decide]
  refine wpAny_Assign_Name ?_
  refine wpAny_BinOp (nm T T.push hn e2 ?_)
  refine Calls.Name_function_global T.kind T.share (Calls.loadGlobal_global (by rw [T.gl]; exact hg) e4 ?_) (by decide)
  refine floordiv_int (by decide) ?_
  refine wpAny_storeName_local (s := { s with toks := s.toks + 1 }) T.push hn (fun h' hn' hs => ?_) (by rw [T.kind]; rfl)
  refine h h' _ ⟨⟨_, hn', ⟨t1, by rw [if_neg (by simp [h1])]; exact e1⟩, ⟨_, if_pos rfl⟩, ⟨t3, by rw [if_neg (by simp [h2])]; exact e3⟩⟩, ⟨mg, hg.sameBut hs (Ne.symm hL), t4, e4⟩⟩ fun b o hb e => (hs.2 b hb).trans e
/-- slot = (5 * slot + push + 1) % size -/
theorem run_slot {p1 p2 p3 p4 p5 p6 p7 p8 p9 p10 p11 : Pos} {k1 k2 : Nat} {Q : Flow → Shared → Prop} (T : PEnv env) (hL : env.locals ≠ mainGlobals) (hz : size ≠ 0) (x : Fm env s.heap size slot push)
    (h : ∀ h' tk, Fm env h' size ((5 * slot + push + 1).fmod size) push → (∀ b o, b ≠ env.locals → s.heap.get? b = some o → h'.get? b = some o) → Q .next { s with heap := h', toks := tk }) :
    wpAny (model prog w) A (exec (stSlot p1 p2 p3 p4 p5 p6 p7 p8 p9 p10 p11 k1 k2) env) Q E s := by
  obtain ⟨⟨m, hn, ⟨t1, e1⟩, ⟨t2, e2⟩, ⟨t3, e3⟩⟩, ⟨mg, hg, q⟩⟩ := x
  have h1 : (("push" : Str) = "slot") = False := by simp [show ¬ (("push" : Str) = "slot") by decide]
  have h2 : (("size" : Str) = "slot") = False := by simp [show ¬ (("size" : Str) = "slot") by decide]
  refine wpAny_Assign_Name ?_
  refine wpAny_BinOp (wpAny_BinOp (wpAny_BinOp (wpAny_BinOp (wpAny_Constant_int (nm (s := { s with toks := s.toks + 1 }) T T.slot hn e1 ?_)))))
  refine mul_int ?_ (CMul.ok (.inl ⟨by decide, by decide⟩))
  refine nm (s := { s with toks := s.toks + 1 + 1 }) T T.push hn e2 ?_
  refine add_int ?_
  refine wpAny_Constant_int ?_
  refine add_int ?_
  refine nm (s := { s with toks := s.toks + 1 + 1 + 1 + 1 + 1 }) T T.size hn e3 ?_
  refine mod_int' hz ?_
  refine wpAny_storeName_local (s := { s with toks := _ }) T.slot hn (fun h' hn' hs => ?_) (by rw [T.kind]; rfl)
  refine h h' _ ⟨⟨_, hn', ⟨_, if_pos rfl⟩, ⟨t2, by rw [if_neg (by simp [h1])]; exact e2⟩, ⟨t3, by rw [if_neg (by simp [h2])]; exact e3⟩⟩, ⟨mg, hg.sameBut hs (Ne.symm hL), q⟩⟩ fun b o hb e => (hs.2 b hb).trans e
end

/-! ### for, within a generator -/
section
variable {M : Model} {A : Around} {R : GenEnd} {Y : Protocol} {n : Nat} {s₀ : Shared} {c : Code} {fs : List Frame} {s : Shared} {env : Env}
  {K : Flow → Sem PySem.Fin} {H : Value → Sem PySem.Fin} {gd : Bool → Bool} {lv : List Value → List Value}
/-- what stands behind the loop's call -/
abbrev behind (env : Env) (K : Flow → Sem PySem.Fin) (H : Value → Sem PySem.Fin) (gd : Bool → Bool) (lv : List Value → List Value) (r : Result) : Sem PySem.Fin :=
  ((match r with | .ok f => (.pure f : Sem Flow) | .error e => .raise e).onRaise fun (x : Value) => do
    if (← field x 1) == Value.none then unsupported "frame.own-activation:exception-without-traceback"
    setFlight x env.frame).wrap K H gd lv
theorem seg_For {target iter : Expr} {body orelse : List Stmt} {pos : Pos} (hs : ∀ x, foldedSetIterable iter env x = pure x)
    (h : wpAny M (A.over c fs) (eval iter env) (fun x s₁ => wpAny M (A.over c fs) (pyIter x) (fun it s₂ => ∀ p, Seg M A R Y n s₀ (.forLoop target it body orelse env) (M.den (.forLoop target it body orelse env)) (.ret (behind env K H gd lv) none (gd false) (lv []) c p [] :: fs) s₂)
      (fun x s' => Seg M A R Y n s₀ c (H x) fs s') s₁) (fun x s' => Seg M A R Y n s₀ c (H x) fs s') s) :
    Seg M A R Y n s₀ c ((exec (.For target iter body orelse pos) env).wrap K H gd lv) fs s := by
  rw [exec_For]
  refine seg_at ?_
  show Seg _ _ _ _ _ _ _ (((eval iter env) >>= fun x => (foldedSetIterable iter env x >>= fun x => (standAt iter.pos >>= fun _ => (holding [x] (pyIter x)) >>= fun it => runOwn (.forLoop target it body orelse env) env))).wrap K H gd lv) fs s
  rw [Sem.bind_eq_wrap', Sem.wrap_wrap]
  refine seg_wrap (wpAny_mono h (fun x s₁ h₁ => ?_) fun _ _ h' => h')
  rw [hs x]
  refine seg_at ?_
  show Seg _ _ _ _ _ _ _ (((holding [x] (pyIter x)) >>= fun it => runOwn (.forLoop target it body orelse env) env).wrap K H gd lv) fs s₁
  rw [Sem.bind_eq_wrap', Sem.wrap_wrap]
  refine seg_wrap (wpAny_holding (wpAny_mono h₁ (fun it s₂ h₂ => ?_) fun _ _ h' => h'))
  exact seg_call h₂
end
section
variable {prog : Program} {w : World} {A : Around} {R : GenEnd} {Y : Protocol} {n : Nat} {s₀ : Shared} {fs : List Frame} {s : Shared} {env : Env}
/-- what is left of a loop's turn behind its body -/
abbrev turned (target : Expr) (it : Value) (body orelse : List Stmt) (env : Env) (f : Flow) : Sem PySem.Fin := match f with
  | .next | .cont => .pure (.again (.forLoop target it body orelse env))
  | .brk => .pure (.done .next)
  | .ret v => .pure (.done (.ret v))
abbrev noted (env : Env) (e : Value) : Sem PySem.Fin := (do noteFrame e env; theTreesLotGoes e : Sem Unit).wrap (fun _ => .raise e) .raise id id
theorem seg_forLoop {target : Expr} {it : Value} {body orelse : List Stmt} (hgo : ∀ v, letOwnedTupleGo target it v = pure ())
    (h : wpAny (model prog w) (A.over (.forLoop target it body orelse env) fs) (pyNext it) (fun r s₁ => match r with
        | none => Seg (model prog w) A R Y n s₀ (.block orelse env) ((model prog w).den (.block orelse env)) fs s₁
        | some v => wpAny (model prog w) (A.over (.forLoop target it body orelse env) fs) (assign target env v) (fun _ s₂ =>
            Seg (model prog w) A R Y n s₀ (.forLoop target it body orelse env) ((execs body env).wrap (turned target it body orelse env) (noted env) id id) fs s₂)
            (fun _ _ => False) s₁) (fun _ _ => False) s)
    (hq : (Code.block orelse env).quiet = true := by rfl) :
    Seg (model prog w) A R Y n s₀ (.forLoop target it body orelse env) ((model prog w).den (.forLoop target it body orelse env)) fs s := by
  show Seg _ A R Y n s₀ _ ((forTurn target it body orelse env).onRaise (fun x => do noteFrame x env; theTreesLotGoes x)) fs s
  rw [Sem.onRaise_eq_wrap]
  unfold forTurn
  refine seg_at ?_
  show Seg _ A R Y n s₀ _ ((((pyNext it).onRaise (fun _ => standAt { target.pos with line := 0 })) >>= fun r => (match r with
    | none => again (.block orelse env)
    | some v => letOwnedTupleGo target it v >>= fun _ => assign target env v >>= fun _ => execs body env >>= fun f => (match f with
      | .next | .cont => again (.forLoop target it body orelse env)
      | .brk => pure (.done .next)
      | .ret v => pure (.done (.ret v)) : Sem PySem.Fin) : Sem PySem.Fin)).wrap _ _ id id) fs s
  rw [Sem.bind_eq_wrap', Sem.wrap_wrap]
  refine seg_wrap (wpAny_onRaise (wpAny_mono h (fun r s₁ h₁ => ?_) fun _ _ h' => h'.elim))
  cases r with
  | none => exact seg_again hq h₁
  | some v =>
    show Seg _ A R Y n s₀ _ ((letOwnedTupleGo target it v >>= fun _ => assign target env v >>= fun _ => execs body env >>= fun f => (match f with
      | .next | .cont => again (.forLoop target it body orelse env)
      | .brk => pure (.done .next)
      | .ret v => pure (.done (.ret v)) : Sem PySem.Fin)).wrap _ _ id id) fs s₁
    rw [hgo v]
    show Seg _ A R Y n s₀ _ ((assign target env v >>= fun _ => execs body env >>= fun f => (match f with
      | .next | .cont => again (.forLoop target it body orelse env)
      | .brk => pure (.done .next)
      | .ret v => pure (.done (.ret v)) : Sem PySem.Fin)).wrap _ _ id id) fs s₁
    rw [Sem.bind_eq_wrap', Sem.wrap_wrap]
    refine seg_wrap (wpAny_mono h₁ (fun _ s₂ h₂ => ?_) fun _ _ h' => h'.elim)
    rw [Sem.bind_eq_wrap', Sem.wrap_wrap]
    refine cast ?_ h₂
    congr 1
    refine Sem.wrap_congr _ id id (fun f => by cases f <;> rfl) (fun e => ?_)
    show _ = ((do noteFrame e env; theTreesLotGoes e : Sem Unit).bind (fun _ => Sem.raise e))
    rw [Sem.bind_eq_wrap]
end

/-! ### the loop of path -/
/-- the pushes and the slots -/
def pu (code : Int) : Nat → Int
  | 0 => code
  | i + 1 => (pu code i).fdiv 32
def sl (size code : Int) : Nat → Int
  | 0 => code.fmod size
  | i + 1 => (5 * sl size code i + pu code (i + 1) + 1).fmod size
/-- ahead of the turn i: the frame, and the iterator of range(N) -/
structure LSt (env : Env) (it : Addr) (N : Nat) (size code : Int) (i : Nat) (h : Heap) : Prop where
  fm : Fm env h size (sl size code i) (pu code i)
  rg : IsRangeIter h it (0 + (i : Nat) * 1) ((N : Int) - (i : Nat)) 1
/-- amid the turn i: the slot is out -/
structure LSy (env : Env) (it : Addr) (N : Nat) (size code : Int) (i : Nat) (h : Heap) : Prop where
  fm : Fm env h size (sl size code i) (pu code i)
  rg : IsRangeIter h it (0 + ((i + 1 : Nat) : Int) * 1) ((N : Int) - ((i + 1 : Nat) : Int)) 1
/-- only the frame and the iterator have changed -/
def Mv (L it : Addr) (s s' : Shared) : Prop := ∃ h' tk, s' = { s with heap := h', toks := tk } ∧ ∀ b o, b ≠ L → b ≠ it → s.heap.get? b = some o → h'.get? b = some o
theorem Mv.refl {L it : Addr} {s : Shared} : Mv L it s s := ⟨s.heap, s.toks, rfl, fun _ _ _ _ e => e⟩
theorem Mv.trans {L it : Addr} {s s1 s2 : Shared} (a : Mv L it s s1) (b : Mv L it s1 s2) : Mv L it s s2 := by
  obtain ⟨h1, t1, rfl, k1⟩ := a
  obtain ⟨h2, t2, rfl, k2⟩ := b
  exact ⟨h2, t2, rfl, fun c o n1 n2 e => k2 c o n1 n2 (k1 c o n1 n2 e)⟩
/-- asleep: the generator's own things stay -/
def Slp (env : Env) (it : Addr) (s s' : Shared) : Prop := ∀ b o, (b = env.locals ∨ b = it ∨ b = mainGlobals) → s.heap.get? b = some o → s'.heap.get? b = some o
theorem LSy.keeps {env : Env} {it : Addr} {N : Nat} {size code : Int} {i : Nat} {s s' : Shared} (x : LSy env it N size code i s.heap) (k : Slp env it s s') : LSy env it N size code i s'.heap :=
  ⟨x.fm.keeps fun b o hb e => k b o (hb.elim .inl fun z => .inr (.inr z)) e, k it _ (.inr (.inl rfl)) x.rg⟩
/-- the wake that began at s₀ has come to s: ahead of the first slot by its own word, later the frame and the iterator alone have changed -/
def Jr (J0 : Shared → Shared → Prop) (L it : Addr) (i : Nat) (s₀ s : Shared) : Prop := if i = 0 then J0 s₀ s else Mv L it s₀ s
def YP (J0 : Shared → Shared → Prop) (env : Env) (it : Addr) (N : Nat) (size code : Int) : Protocol := fun n s₀ v s kap =>
  ∃ i t, n + 1 + i = N ∧ v = .int (sl size code i) t ∧ Jr J0 env.locals it i s₀ s ∧ LSy env it N size code i s.heap ∧ ∀ s', Slp env it s s' → kap (.send .none) s'
def RP (J0 : Shared → Shared → Prop) (L it : Addr) (N : Nat) : GenEnd := fun n s₀ r s => r = .ok (.ret .none) ∧ n = 0 ∧ Jr J0 L it N s₀ s
section
variable {prog : Program} {w : World} {A : Around} {env : Env} {J0 : Shared → Shared → Prop} {it : Addr} {N : Nat} {size code : Int}
abbrev loopBody (p0 p0' p0'' p1 p2 p3 p4 p5 q1 q2 q3 q4 q5 q6 q7 q8 q9 q10 q11 : Pos) (k1 k2 : Nat) : List Stmt :=
  [.Expr (.Yield (some (.Name "slot" p0)) p0') p0'', stPush p1 p2 p3 p4 p5, stSlot q1 q2 q3 q4 q5 q6 q7 q8 q9 q10 q11 k1 k2]
theorem path_seg {pt p0 p0' p0'' p1 p2 p3 p4 p5 q1 q2 q3 q4 q5 q6 q7 q8 q9 q10 q11 : Pos} {k1 k2 : Nat} (T : PEnv env) (hi : interactive env = false) (hL : env.locals ≠ mainGlobals) (hiL : it ≠ env.locals) (hiG : it ≠ mainGlobals) (hz : size ≠ 0)
    (hJ : ∀ s₀ s s', J0 s₀ s → Mv env.locals it s s' → J0 s₀ s') {kf : Result → Sem PySem.Fin} {g : Bool → Bool} {l : List Value} {c : Code} {p : Pos} (hg : g false = false)
    (hA : (A.over (.forLoop (.Name "_" pt) (.ref it) (loopBody p0 p0' p0'' p1 p2 p3 p4 p5 q1 q2 q3 q4 q5 q6 q7 q8 q9 q10 q11 k1 k2) [] env) [.ret kf none (g false) l c p []]).handled = none)
    (hend : ∀ s₀ s, Jr J0 env.locals it N s₀ s → Seg (model prog w) A (RP J0 env.locals it N) (YP J0 env it N size code) 0 s₀ c (kf (.ok .next)) [] s) :
    ∀ (r i : Nat) (s₀ s : Shared), i + r = N → LSt env it N size code i s.heap → Jr J0 env.locals it i s₀ s →
      Seg (model prog w) A (RP J0 env.locals it N) (YP J0 env it N size code) r s₀ (.forLoop (.Name "_" pt) (.ref it) (loopBody p0 p0' p0'' p1 p2 p3 p4 p5 q1 q2 q3 q4 q5 q6 q7 q8 q9 q10 q11 k1 k2) [] env)
        ((model prog w).den (.forLoop (.Name "_" pt) (.ref it) (loopBody p0 p0' p0'' p1 p2 p3 p4 p5 q1 q2 q3 q4 q5 q6 q7 q8 q9 q10 q11 k1 k2) [] env)) [.ret kf none (g false) l c p []] s := by
  have jmv : ∀ i s₀ s s', Jr J0 env.locals it i s₀ s → Mv env.locals it s s' → Jr J0 env.locals it i s₀ s' := fun i s₀ s s' h m => by
    unfold Jr at h ⊢
    split at h
    · rename_i e
      rw [if_pos e]; exact hJ _ _ _ h m
    · rename_i e
      rw [if_neg e]; exact h.trans m
  intro r
  induction r with
  | zero =>
    intro i s₀ s hir x j
    obtain rfl : i = N := by omega
    refine seg_forLoop (fun v => rfl) ?_
    refine wpAny_pyNext_range_end hA x.rg (by omega) fun h' eb => ?_
    show Seg _ _ _ _ 0 s₀ (.block [] env) ((model prog w).den (.block [] env)) _ _
    refine seg_leaf (.ok .next) (hend s₀ _ (jmv _ _ _ _ j ⟨h', s.toks, rfl, fun b o _ hb e => eb b o hb e⟩))
  | succ r ih =>
    intro i s₀ s hir x j
    refine seg_forLoop (fun v => rfl) ?_
    have W := Walks.range (prog := prog) (w := w) hA it 0 1 N
    refine W.item i s _ _ (by omega) x.rg fun v h1 t1 hv rg1 k1' => ?_
    obtain ⟨tv, rfl⟩ := hv
    have kk : ∀ b o, b ≠ it → s.heap.get? b = some o → h1.get? b = some o := fun b o hb e => k1' b o (by simpa using hb) e
    have f1 : Fm env h1 size (sl size code i) (pu code i) := x.fm.keeps fun b o hb e => kk b o (by rcases hb with hb | hb <;> rw [hb] <;> first | exact Ne.symm hiL | exact Ne.symm hiG) e
    have j1 : Jr J0 env.locals it i s₀ { s with heap := h1, toks := t1 } := jmv _ _ _ _ j ⟨h1, t1, rfl, fun b o _ hb e => kk b o hb e⟩
    -- the loop's own name
    show wpAny _ _ (assign (.Name "_" pt) env _) _ _ _
    obtain ⟨⟨m, hn, ⟨a1, e1⟩, ⟨a2, e2⟩, ⟨a3, e3⟩⟩, ⟨mg, hg', gq⟩⟩ := f1
    have n1 : ¬ (("slot" : Str) = "_") := by decide
    have n2 : ¬ (("push" : Str) = "_") := by decide
    have n3 : ¬ (("size" : Str) = "_") := by decide
    refine wpAny_assign_Name (wpAny_storeName_local (s := { s with heap := h1, toks := t1 }) T.low hn (fun h2 hn2 hs2 => ?_) (by rw [T.kind]; rfl))
    have f2 : Fm env h2 size (sl size code i) (pu code i) := ⟨⟨_, hn2, ⟨a1, by rw [if_neg n1]; exact e1⟩, ⟨a2, by rw [if_neg n2]; exact e2⟩, ⟨a3, by rw [if_neg n3]; exact e3⟩⟩, ⟨mg, hg'.sameBut hs2 (Ne.symm hL), gq⟩⟩
    have j2 : Jr J0 env.locals it i s₀ { s with heap := h2, toks := t1 + 1 } := jmv _ _ _ _ j1 ⟨h2, t1 + 1, rfl, fun b o hb _ e => (hs2.2 b hb).trans e⟩
    have y2 : LSy env it N size code i h2 := ⟨f2, (hs2.2 it hiL).trans rg1⟩
    -- yield slot
    refine seg_execs_cons ?_
    refine seg_Expr_Yield (n := r) (gd := id) (by rfl) rfl (by show (g false || false) = false; rw [hg]; rfl) ?_ T.co hi
    obtain ⟨⟨m2, hm2, ⟨b1, c1⟩, _⟩, _⟩ := f2
    refine nm (s := { s with heap := h2, toks := t1 + 1 }) T T.slot hm2 c1 ?_
    intro kap hk
    refine ⟨i, b1, by omega, rfl, j2, y2, fun s'' z => hk .none s'' ?_⟩
    show Seg _ _ _ _ r s'' _ _ _ _
    have y3 := y2.keeps (s := { s with heap := h2, toks := t1 + 1 }) (s' := s'') z
    -- push, slot
    show Seg _ _ _ _ r s'' _ ((execs [stPush p1 p2 p3 p4 p5, stSlot q1 q2 q3 q4 q5 q6 q7 q8 q9 q10 q11 k1 k2] env).wrap _ _ id id) _ s''
    refine seg_execs_cons (seg_wrap (run_push T hL y3.fm fun h4 t4 f4 k4 => ?_))
    show Seg _ _ _ _ r s'' _ ((execs [stSlot q1 q2 q3 q4 q5 q6 q7 q8 q9 q10 q11 k1 k2] env).wrap _ _ id id) _ _
    refine seg_execs_cons (seg_wrap (run_slot (s := { s'' with heap := h4, toks := t4 }) T hL hz f4 fun h5 t5 f5 k5 => ?_))
    show Seg _ _ _ _ r s'' _ ((execs [] env).wrap _ _ id id) _ _
    refine seg_execs_nil ?_
    refine seg_again rfl ?_
    refine ih (i + 1) s'' _ (by omega) ⟨f5, (k5 it _ hiL (k4 it _ hiL y3.rg))⟩ ?_
    unfold Jr
    rw [if_neg (by omega)]
    exact ⟨h5, t5, rfl, fun b o hb _ e => k5 b o hb (k4 b o hb e)⟩
end
end Pth
set_option Elab.async false
set_option linter.all false
set_option maxRecDepth 100000
set_option maxHeartbeats 1000000
/-! Pg: the first wake of a generator, its end by any word -/
namespace Pth
open PySem PySem.Spec PyProof.Rows L2 GenW
def SegG (M : Model) (A : Around) (Φ : End → Shared → Prop) (c : Code) (t : Sem PySem.Fin) (fs : List Frame) (s : Shared) : Prop :=
  ∀ (Γ : PySem.Ctx) (p : Pos), Γ.code = c → Γ.Woken A → ∃ e s', Runs M Γ p t fs s e s' ∧ Φ e s'
section
variable {M : Model} {A : Around} {Φ : End → Shared → Prop} {c : Code} {fs : List Frame} {s : Shared} {env : Env}
theorem sg_wrap {α : Type} {m : Sem α} {K : α → Sem PySem.Fin} {H : Value → Sem PySem.Fin} {gd lv}
    (h : wpAny M (A.over c fs) m (fun a s' => SegG M A Φ c (K a) fs s') (fun x s' => SegG M A Φ c (H x) fs s') s) : SegG M A Φ c (m.wrap K H gd lv) fs s := by
  rintro Γ p rfl hΓ
  exact runs_wrap_of_wp K H gd lv m (h (Γ.over fs) p (hΓ.over fs)) (fun a p' s' h' => h' Γ p' rfl hΓ) (fun x p' s' h' => h' Γ p' rfl hΓ)
theorem sg_at {p' : Pos} {k : Unit → Sem PySem.Fin} (h : SegG M A Φ c (k ()) fs s) : SegG M A Φ c (.at p' k) fs s :=
  sg_wrap (m := standAt p') (K := k) (H := .raise) (gd := id) (lv := id) (wpAny_standAt h)
theorem sg_point {l : List Value} {k : Unit → Sem PySem.Fin} (h : SegG M A Φ c (k ()) fs s) : SegG M A Φ c (.point l k) fs s :=
  sg_wrap (m := point) (K := k) (H := .raise) (gd := id) (lv := fun _ => l) (wpAny_point h)
theorem sg_call {c' : Code} {h g l} {k : Result → Sem PySem.Fin} (hc : ∀ p, SegG M A Φ c' (M.den c') (.ret k h g l c p [] :: fs) s) : SegG M A Φ c (.call c' h g l k) fs s := by
  rintro Γ p rfl hΓ
  obtain ⟨e, s', hr, he⟩ := hc p (Γ.goto c') p rfl (hΓ.goto c')
  exact ⟨e, s', runs_call_seg hr, he⟩
theorem sg_leaf {k h g l c₁ p₁ kp} (r : Result) (hk : SegG M A Φ c₁ (k r) fs s) : SegG M A Φ c (leafOf r) (.ret k h g l c₁ p₁ kp :: fs) s := by
  rintro Γ p rfl hΓ
  obtain ⟨e, s', hr, he⟩ := hk (Γ.goto c₁) p₁ rfl (hΓ.goto c₁)
  exact ⟨e, s', Runs.pop r hr, he⟩
theorem sg_again {c' : Code} (hq : c'.quiet = true) (hc : SegG M A Φ c' (M.den c') fs s) : SegG M A Φ c (.pure (.again c')) fs s := by
  rintro Γ p rfl hΓ
  obtain ⟨e, s', hr, he⟩ := hc (Γ.goto c') p rfl (hΓ.goto c')
  exact ⟨e, s', Runs.head (c₁ := c') (fun _ _ x => .again hq x) hr, he⟩
theorem sg_end (r : Result) (h : Φ (.ret r) s) : SegG M A Φ c (leafOf r) [] s := by
  rintro Γ p rfl _
  exact ⟨.ret r, s, Runs.leaf r, h⟩
theorem sg_yield {v g l} {k : Resume → Sem PySem.Fin} (hfs : splitAtGen fs = none) (h : ∀ p, Φ (.susp v g l k c p fs) s) : SegG M A Φ c (.yield v g l k) fs s := by
  rintro Γ p rfl _
  exact ⟨_, s, Runs.yield' fs hfs, h p⟩
variable {K : Flow → Sem PySem.Fin} {H : Value → Sem PySem.Fin} {gd : Bool → Bool} {lv : List Value → List Value}
theorem sg_execs_nil (h : SegG M A Φ c (K .next) fs s) : SegG M A Φ c ((execs [] env).wrap K H gd lv) fs s := h
theorem sg_execs_cons {st : Stmt} {rest : List Stmt}
    (h : SegG M A Φ c ((exec st env).wrap (fun f => match f with | .next => (execs rest env).wrap K H gd lv | f => K f) H gd lv) fs s) :
    SegG M A Φ c ((execs (st :: rest) env).wrap K H gd lv) fs s := by rw [execs_cons_wrap]; exact h
/-- some statements ahead, by one judgement -/
theorem execs_app_wrap : ∀ (l r : List Stmt) (K : Flow → Sem PySem.Fin), (execs (l ++ r) env).wrap K H gd lv = (execs l env).wrap (fun f => match f with | .next => (execs r env).wrap K H gd lv | f => K f) H gd lv := by
  intro l
  induction l with
  | nil => intro r K; rfl
  | cons a t ih =>
    intro r K
    rw [List.cons_append, execs_cons_wrap, execs_cons_wrap]
    refine Sem.wrap_congr _ gd lv (fun f => ?_) (fun _ => rfl)
    cases f with
    | next => exact ih r K
    | _ => rfl
theorem sg_app {l r : List Stmt} (h : SegG M A Φ c ((execs l env).wrap (fun f => match f with | .next => (execs r env).wrap K H gd lv | f => K f) H gd lv) fs s) : SegG M A Φ c ((execs (l ++ r) env).wrap K H gd lv) fs s := by
  rw [execs_app_wrap]; exact h
theorem sg_For {target iter : Expr} {body orelse : List Stmt} {pos : Pos} (hs : ∀ x, foldedSetIterable iter env x = pure x)
    (h : wpAny M (A.over c fs) (eval iter env) (fun x s₁ => wpAny M (A.over c fs) (pyIter x) (fun it s₂ => ∀ p, SegG M A Φ (.forLoop target it body orelse env) (M.den (.forLoop target it body orelse env)) (.ret (behind env K H gd lv) none (gd false) (lv []) c p [] :: fs) s₂)
      (fun x s' => SegG M A Φ c (H x) fs s') s₁) (fun x s' => SegG M A Φ c (H x) fs s') s) :
    SegG M A Φ c ((exec (.For target iter body orelse pos) env).wrap K H gd lv) fs s := by
  rw [exec_For]
  refine sg_at ?_
  show SegG _ _ _ _ (((eval iter env) >>= fun x => (foldedSetIterable iter env x >>= fun x => (standAt iter.pos >>= fun _ => (holding [x] (pyIter x)) >>= fun it => runOwn (.forLoop target it body orelse env) env))).wrap K H gd lv) fs s
  rw [Sem.bind_eq_wrap', Sem.wrap_wrap]
  refine sg_wrap (wpAny_mono h (fun x s₁ h₁ => ?_) fun _ _ h' => h')
  rw [hs x]
  refine sg_at ?_
  show SegG _ _ _ _ (((holding [x] (pyIter x)) >>= fun it => runOwn (.forLoop target it body orelse env) env).wrap K H gd lv) fs s₁
  rw [Sem.bind_eq_wrap', Sem.wrap_wrap]
  refine sg_wrap (wpAny_holding (wpAny_mono h₁ (fun it s₂ h₂ => ?_) fun _ _ h' => h'))
  exact sg_call h₂
end
section
variable {prog : Program} {w : World} {A : Around} {Φ : End → Shared → Prop} {fs : List Frame} {s : Shared} {env : Env}
theorem sg_forLoop {target : Expr} {it : Value} {body orelse : List Stmt} (hgo : ∀ v, letOwnedTupleGo target it v = pure ())
    (h : wpAny (model prog w) (A.over (.forLoop target it body orelse env) fs) (pyNext it) (fun r s₁ => match r with
        | none => SegG (model prog w) A Φ (.block orelse env) ((model prog w).den (.block orelse env)) fs s₁
        | some v => wpAny (model prog w) (A.over (.forLoop target it body orelse env) fs) (assign target env v) (fun _ s₂ =>
            SegG (model prog w) A Φ (.forLoop target it body orelse env) ((execs body env).wrap (turned target it body orelse env) (noted env) id id) fs s₂)
            (fun _ _ => False) s₁) (fun _ _ => False) s)
    (hq : (Code.block orelse env).quiet = true := by rfl) :
    SegG (model prog w) A Φ (.forLoop target it body orelse env) ((model prog w).den (.forLoop target it body orelse env)) fs s := by
  show SegG _ A Φ _ ((forTurn target it body orelse env).onRaise (fun x => do noteFrame x env; theTreesLotGoes x)) fs s
  rw [Sem.onRaise_eq_wrap]
  unfold forTurn
  refine sg_at ?_
  show SegG _ A Φ _ ((((pyNext it).onRaise (fun _ => standAt { target.pos with line := 0 })) >>= fun r => (match r with
    | none => again (.block orelse env)
    | some v => letOwnedTupleGo target it v >>= fun _ => assign target env v >>= fun _ => execs body env >>= fun f => (match f with
      | .next | .cont => again (.forLoop target it body orelse env)
      | .brk => pure (.done .next)
      | .ret v => pure (.done (.ret v)) : Sem PySem.Fin) : Sem PySem.Fin)).wrap _ _ id id) fs s
  rw [Sem.bind_eq_wrap', Sem.wrap_wrap]
  refine sg_wrap (wpAny_onRaise (wpAny_mono h (fun r s₁ h₁ => ?_) fun _ _ h' => h'.elim))
  cases r with
  | none => exact sg_again hq h₁
  | some v =>
    show SegG _ A Φ _ ((letOwnedTupleGo target it v >>= fun _ => assign target env v >>= fun _ => execs body env >>= fun f => (match f with
      | .next | .cont => again (.forLoop target it body orelse env)
      | .brk => pure (.done .next)
      | .ret v => pure (.done (.ret v)) : Sem PySem.Fin)).wrap _ _ id id) fs s₁
    rw [hgo v]
    show SegG _ A Φ _ ((assign target env v >>= fun _ => execs body env >>= fun f => (match f with
      | .next | .cont => again (.forLoop target it body orelse env)
      | .brk => pure (.done .next)
      | .ret v => pure (.done (.ret v)) : Sem PySem.Fin)).wrap _ _ id id) fs s₁
    rw [Sem.bind_eq_wrap', Sem.wrap_wrap]
    refine sg_wrap (wpAny_mono h₁ (fun _ s₂ h₂ => ?_) fun _ _ h' => h'.elim)
    rw [Sem.bind_eq_wrap', Sem.wrap_wrap]
    refine cast ?_ h₂
    congr 1
    refine Sem.wrap_congr _ id id (fun f => by cases f <;> rfl) (fun e => ?_)
    show _ = ((do noteFrame e env; theTreesLotGoes e : Sem Unit).bind (fun _ => Sem.raise e))
    rw [Sem.bind_eq_wrap]
theorem sg_Expr_Yield {K : Flow → Sem PySem.Fin} {H : Value → Sem PySem.Fin} {e : Expr} {ypos pos : Pos} {c : Code} (hfs : splitAtGen fs = none)
    (h : wpAny (model prog w) (A.over c fs) (eval e env) (fun v s' => ∀ p k, (∀ v, k (.send v) = (dropValue (.Yield (some e) ypos) pos v).wrap K H id id) → Φ (.susp v false [] k c p fs) s')
      (fun x s' => SegG (model prog w) A Φ c (H x) fs s') s) (hco : env.scope.isCoroutine = false := by rfl) (hi : interactive env = false := by rfl) :
    SegG (model prog w) A Φ c ((exec (.Expr (.Yield (some e) ypos) pos) env).wrap K H id id) fs s := by
  rw [exec_Expr env _ pos hi rfl]
  show SegG _ A Φ c (.at pos fun _ => ((eval e env >>= fun v => (standAt ypos >>= fun _ => yieldOut env v)) >>= fun x =>
    dropValue (.Yield (some e) ypos) pos x).wrap K H id id) fs s
  have hy : ∀ v, yieldOut env v = yieldValue v := fun v => by simp only [yieldOut, hco, Bool.false_eq_true, if_false]
  simp only [hy]
  refine sg_at ?_
  rw [Sem.bind_eq_wrap', Sem.bind_eq_wrap', Sem.wrap_wrap, Sem.wrap_wrap]
  refine sg_wrap (wpAny_mono h (fun v s' h' => ?_) fun _ _ x => x)
  refine sg_at ?_
  exact sg_yield hfs fun p => h' p _ fun v => rfl
theorem sg_func {body : List Stmt}
    (h : SegG (model prog w) A Φ (.func body env) ((execs body env).wrap (fun f => .pure (.done (.ret (match f with | .ret v => v | _ => .none))))
      (fun e => (leaving env e).wrap (fun _ => .raise e) .raise id id) id id) fs s) :
    SegG (model prog w) A Φ (.func body env) ((model prog w).den (.func body env)) fs s := by
  show SegG _ A Φ _ (.point [] fun _ => ((execs body env).onRaise (leaving env)) >>= _) fs s
  refine sg_point ?_
  rw [Sem.onRaise_eq_wrap, Sem.bind_eq_wrap', Sem.wrap_wrap]
  rw [Sem.wrap_congr (execs body env) _ _ (K' := fun f => .pure (.done (.ret (match f with | .ret v => v | _ => .none))))
    (H' := fun e => (leaving env e).wrap (fun _ => .raise e) .raise id id) (fun f => by cases f <;> rfl)
    (fun e => by rw [Sem.bind_eq_wrap, Sem.wrap_wrap]; rfl)]
  exact h
end

/-! ### the first turn -/
/-- what the first wake comes to: J the state's own word; no slot at all, or the first one is out -/
def FstP (prog : Program) (w : World) (A : Around) (env : Env) (N : Nat) (size code : Int) (low : List Addr) (J : Shared → Prop) (e : End) (s' : Shared) : Prop := match e with
  | .ret r => r = .ok (.ret .none) ∧ N = 0 ∧ J s'
  | .susp v g l k c p fs => (End.susp v g l k c p fs).quiet = true ∧ 0 < N ∧ (∃ t, v = .int (sl size code 0) t) ∧ J s' ∧ ∃ it : Addr, (∀ b ∈ low, b < it) ∧ LSy env it N size code 0 s'.heap ∧
      ∀ s'', Slp env it s' s'' → Seg (model prog w) A (RP (fun _ _ => True) env.locals it N) (YP (fun _ _ => True) env it N size code) (N - 1) s'' c (k (.send .none)) fs s''
section
variable {prog : Program} {w : World} {A : Around} {env : Env} {it : Addr} {N : Nat} {size code : Int}
theorem path_first {J : Shared → Prop} {low : List Addr} {pt p0 p0' p0'' p1 p2 p3 p4 p5 q1 q2 q3 q4 q5 q6 q7 q8 q9 q10 q11 : Pos} {k1 k2 : Nat} (T : PEnv env) (hi : interactive env = false) (hL : env.locals ≠ mainGlobals) (hiL : it ≠ env.locals) (hiG : it ≠ mainGlobals) (hz : size ≠ 0) (hlow : ∀ b ∈ low, b < it)
    (hJ : ∀ s s', J s → Mv env.locals it s s' → J s') {kf : Result → Sem PySem.Fin} {g : Bool → Bool} {l : List Value} {c : Code} {p : Pos} (hg : g false = false)
    (hA : (A.over (.forLoop (.Name "_" pt) (.ref it) (loopBody p0 p0' p0'' p1 p2 p3 p4 p5 q1 q2 q3 q4 q5 q6 q7 q8 q9 q10 q11 k1 k2) [] env) [.ret kf none (g false) l c p []]).handled = none)
    (hend0 : ∀ s, N = 0 → J s → SegG (model prog w) A (FstP prog w A env N size code low J) c (kf (.ok .next)) [] s)
    (hend : ∀ s₀ s, Jr (fun _ _ => True) env.locals it N s₀ s → Seg (model prog w) A (RP (fun _ _ => True) env.locals it N) (YP (fun _ _ => True) env it N size code) 0 s₀ c (kf (.ok .next)) [] s)
    {s : Shared} (x : LSt env it N size code 0 s.heap) (j : J s) :
    SegG (model prog w) A (FstP prog w A env N size code low J) (.forLoop (.Name "_" pt) (.ref it) (loopBody p0 p0' p0'' p1 p2 p3 p4 p5 q1 q2 q3 q4 q5 q6 q7 q8 q9 q10 q11 k1 k2) [] env)
        ((model prog w).den (.forLoop (.Name "_" pt) (.ref it) (loopBody p0 p0' p0'' p1 p2 p3 p4 p5 q1 q2 q3 q4 q5 q6 q7 q8 q9 q10 q11 k1 k2) [] env)) [.ret kf none (g false) l c p []] s := by
  refine sg_forLoop (fun v => rfl) ?_
  by_cases hN : N = 0
  · refine wpAny_pyNext_range_end hA x.rg (by omega) fun h' eb => ?_
    show SegG _ _ _ (.block [] env) ((model prog w).den (.block [] env)) _ _
    exact sg_leaf (.ok .next) (hend0 _ hN (hJ _ _ j ⟨h', s.toks, rfl, fun b o _ hb e => eb b o hb e⟩))
  · have W := Walks.range (prog := prog) (w := w) hA it 0 1 N
    refine W.item 0 s _ _ (by omega) x.rg fun v h1 t1 hv rg1 k1' => ?_
    obtain ⟨tv, rfl⟩ := hv
    have kk : ∀ b o, b ≠ it → s.heap.get? b = some o → h1.get? b = some o := fun b o hb e => k1' b o (by simpa using hb) e
    have f1 : Fm env h1 size (sl size code 0) (pu code 0) := x.fm.keeps fun b o hb e => kk b o (by rcases hb with hb | hb <;> rw [hb] <;> first | exact Ne.symm hiL | exact Ne.symm hiG) e
    have j1 : J { s with heap := h1, toks := t1 } := hJ _ _ j ⟨h1, t1, rfl, fun b o _ hb e => kk b o hb e⟩
    show wpAny _ _ (assign (.Name "_" pt) env _) _ _ _
    obtain ⟨⟨m, hn, ⟨a1, e1⟩, ⟨a2, e2⟩, ⟨a3, e3⟩⟩, ⟨mg, hg', gq⟩⟩ := f1
    have n1 : ¬ (("slot" : Str) = "_") := by decide
    have n2 : ¬ (("push" : Str) = "_") := by decide
    have n3 : ¬ (("size" : Str) = "_") := by decide
    refine wpAny_assign_Name (wpAny_storeName_local (s := { s with heap := h1, toks := t1 }) T.low hn (fun h2 hn2 hs2 => ?_) (by rw [T.kind]; rfl))
    have f2 : Fm env h2 size (sl size code 0) (pu code 0) := ⟨⟨_, hn2, ⟨a1, by rw [if_neg n1]; exact e1⟩, ⟨a2, by rw [if_neg n2]; exact e2⟩, ⟨a3, by rw [if_neg n3]; exact e3⟩⟩, ⟨mg, hg'.sameBut hs2 (Ne.symm hL), gq⟩⟩
    have j2 : J { s with heap := h2, toks := t1 + 1 } := hJ _ _ j1 ⟨h2, t1 + 1, rfl, fun b o hb _ e => (hs2.2 b hb).trans e⟩
    have y2 : LSy env it N size code 0 h2 := ⟨f2, (hs2.2 it hiL).trans rg1⟩
    refine sg_execs_cons ?_
    refine sg_Expr_Yield (by rfl) ?_ T.co hi
    obtain ⟨⟨m2, hm2, ⟨b1, c1⟩, _⟩, _⟩ := f2
    refine nm (s := { s with heap := h2, toks := t1 + 1 }) T T.slot hm2 c1 ?_
    intro pp kk' hkk
    refine ⟨?_, by omega, ⟨b1, rfl⟩, j2, it, hlow, y2, fun s'' z => ?_⟩
    · show (!(false || (g false || false))) = true
      rw [hg]; rfl
    rw [hkk]
    show Seg _ _ _ _ _ s'' _ (((dropValue (.Yield (some (.Name "slot" p0)) p0') p0'' .none)).wrap _ _ id id) _ s''
    have y3 := y2.keeps (s := { s with heap := h2, toks := t1 + 1 }) (s' := s'') z
    show Seg _ _ _ _ _ s'' _ ((execs [stPush p1 p2 p3 p4 p5, stSlot q1 q2 q3 q4 q5 q6 q7 q8 q9 q10 q11 k1 k2] env).wrap _ _ id id) _ s''
    refine seg_execs_cons (seg_wrap (run_push T hL y3.fm fun h4 t4 f4 k4 => ?_))
    show Seg _ _ _ _ _ s'' _ ((execs [stSlot q1 q2 q3 q4 q5 q6 q7 q8 q9 q10 q11 k1 k2] env).wrap _ _ id id) _ _
    refine seg_execs_cons (seg_wrap (run_slot (s := { s'' with heap := h4, toks := t4 }) T hL hz f4 fun h5 t5 f5 k5 => ?_))
    show Seg _ _ _ _ _ s'' _ ((execs [] env).wrap _ _ id id) _ _
    refine seg_execs_nil ?_
    refine seg_again rfl ?_
    refine path_seg T hi hL hiL hiG hz (fun _ _ _ _ _ => trivial) hg hA hend (N - 1) 1 s'' _ (by omega) ⟨f5, (k5 it _ hiL (k4 it _ hiL y3.rg))⟩ ?_
    unfold Jr
    rw [if_neg (by omega)]
    exact ⟨h5, t5, rfl, fun b o hb _ e => k5 b o hb (k4 b o hb e)⟩
end
end Pth
set_option Elab.async false
set_option linter.all false
set_option maxRecDepth 100000
set_option maxHeartbeats 1000000
/-! Pm: path is called -/
namespace Pth
open PySem PySem.Spec PyProof.Rows L2 GenW
theorem run_range {X : Cx} {pins : List (Addr × Obj)} {σ : L2.St} {H : Hp} {s : Shared} {j : Int} {p pm pos : Pos} (I : Inv X pins σ H s) (hg : Gl X "range") (hm : X.mg "range" = none) (h2 : X.N[2]? = some ("many" : Str)) (hv : Vis X.env.scope "many") (hσ : σ[2]? = some (some (V.int j)))
    (j0 : 0 ≤ j) (j1 : j < 2 ^ 62) :
    wpAny (model X.prog X.w) X.A (eval (.Call (.Name "range" p) [.Name "many" pm] [] pos) X.env) (fun v s1 => wpAny (model X.prog X.w) X.A (pyIter v) (fun itv s2 => ∃ it : Addr, itv = .ref it ∧ X.env.locals < it ∧ (∀ p ∈ X.pn ++ pins, p.1 < it) ∧
      IsRangeIter s2.heap it (0 + ((0 : Nat) : Int) * 1) ((j.toNat : Int) - ((0 : Nat) : Int)) 1 ∧ Inv X pins σ H s2) X.xe s1) X.xe s := by
  refine Call_ (ld_blt I hg hm boot_range (PyProof.Rows.callWith_type1 (thn ((pa_cons (pe_var (i := 2) h2 hv) pa_nil).run pos pins s σ H (fun vs H1 => vs = [.int j] ∧ H1 = H) I ⟨_, hσ, rfl, rfl⟩) fun us s1 ⟨vs, H1, I1, r1, q1⟩ => ?_) rfl rfl))
  obtain ⟨e1, e2⟩ := q1
  subst e1
  subst e2
  cases r1 with
  | cons r rr =>
    cases rr
    obtain ⟨t, rfl⟩ := r
    refine call_range_1 ?_
    refine wpAny_pyIter_range (IsRange.new ..) (small_one (by omega) (by omega) (by omega) j1) ?_
    have I2 : Inv X pins σ H1 { s1 with heap := s1.heap.push { cls := .type "range", data := .fields #[.int 0 s1.toks, .int j t, .int 1 (s1.toks + 1)] }, toks := s1.toks + 1 + 1 } := I1.kept (t' := s1.toks + 1 + 1) fun b o e => Heap.get?_push_of_some _ e
    have hsz : s1.heap.objs.size < (s1.heap.push { cls := .type "range", data := .fields #[.int 0 s1.toks, .int j t, .int 1 (s1.toks + 1)] }).objs.size := by rw [Heap.size_push]; exact Nat.lt_succ_self _
    refine ⟨_, rfl, Nat.lt_trans I1.lt hsz, fun p hp => Nat.lt_trans (Heap.lt_size (I1.pin p hp).1) hsz, ?_, I2.kept (t' := s1.toks + 1 + 1) fun b o e => Heap.get?_push_of_some _ e⟩
    have e1 : (0 : Int) + ((0 : Nat) : Int) * 1 = 0 := by simp
    have e2 : ((j.toNat : Nat) : Int) - ((0 : Nat) : Int) = Builtin.Range.rangeSize 0 j 1 := by rw [rangeSize_one]; split <;> omega
    rw [e1, e2]
    exact Heap.get?_push_size _ rfl

/-- what a call of path gives: a generator that has not begun; what its first wake comes to, from any state that has all that stood there -/
structure PMade (P : Program) (w : World) (k : Nat) (outer : List Env) (H : Hp) (sC : Shared) (N : Nat) (size code : Int) (a : Addr) (g : Nat) (c : Code) (env : Env) (s' : Shared) : Prop where
  T : PEnv env
  nG : env.locals ≠ mainGlobals
  young : sC.heap.objs.size ≤ env.locals
  La : env.locals < a
  aE : a + 1 = s'.heap.objs.size
  gen : s'.heap.IsGen a g
  fresh : s'.gens[g]? = some (.fresh c)
  os : s'.os = sC.os
  bare : AllBare s'.gens
  lim : s'.heap.NoLimit
  keep : ∀ b o, sC.heap.get? b = some o → s'.heap.get? b = some o
  wake : ∀ (A : Around) (s2 : Shared) (xs : List (Addr × Obj)), Room k A → A.frames = some outer → (∀ b o, s'.heap.get? b = some o → s2.heap.get? b = some o) → s2.os = sC.os → AllBare s2.gens → (∀ p ∈ xs, s2.heap.get? p.1 = some p.2 ∧ a < p.1 ∧ ∀ v, p.2.data ≠ .cell v) →
     SegG (model P w) A (FstP P w A env N size code (a :: xs.map (·.1)) (fun s3 => s3.os = sC.os ∧ AllBare s3.gens ∧ Un (frs outer) [] H H sC.heap s3.heap ∧ HOk P w H s3.heap ∧ s3.heap.IsGen a g ∧ s3.heap.NoLimit ∧ ∀ p ∈ xs, s3.heap.get? p.1 = some p.2)) c ((model P w).den c) [] s2
def E00 : XK := fun _ _ _ => False
section
variable {P : Program} {w : World} {K : PySem.W.Frag} {mg : Str → Option Value} {base : Heap}
/-- path's names -/
abbrev pN : List Str := ["code", "size", "many", "slot", "push", "_"]
abbrev pP : List Str := ["code", "size", "many"]
structure PSc (sc : Scope) : Prop where
  S : GScope pN pP sc
  co : sc.isCoroutine = false
  slot : sc.names.lookup ("slot" : Str) = some NameKind.local
  push : sc.names.lookup ("push" : Str) = some NameKind.local
  size : sc.names.lookup ("size" : Str) = some NameKind.local
  many : sc.names.lookup ("many" : Str) = some NameKind.local
  low : sc.names.lookup ("_" : Str) = some NameKind.local
  share : sc.names.lookup ("PUSH_SHARE" : Str) = some NameKind.globalImplicit
  range : sc.names.lookup ("range" : Str) = some NameKind.globalImplicit
theorem PSc.env {sc : Scope} (S : PSc sc) {q : Str} {L f : Addr} {cd : Value} : PEnv (envOfC q sc L f cd) := ⟨S.S.kind, S.co, rfl, S.slot, S.push, S.size, S.low, S.share⟩
theorem path_call {k : Nat} {f : Addr} {name qual : Str} {params : Arguments} {l5 : List Stmt} {scope : Scope} {dV kV doc pm cdv ct oc : Value} {an od : Option Addr} {osl : Array (Option Value)} {tsh : Tok}
    {pt pr pmm pcl pf p0 p0' p0'' p1 p2 p3 p4 p5 q1 q2 q3 q4 q5 q6 q7 q8 q9 q10 q11 : Pos} {k1 k2 : Nat} {size code many : Int}
    (lk : K.lookup f = some ⟨oc, od, .func (PySem.W.fnOf name qual params (l5 ++ [.For (.Name "_" pt) (.Call (.Name "range" pr) [.Name "many" pmm] [] pcl) (loopBody p0 p0' p0'' p1 p2 p3 p4 p5 q1 q2 q3 q4 q5 q6 q7 q8 q9 q10 q11 k1 k2) [] pf]) scope dV kV doc pm an cdv ct), osl⟩)
    (hcd : PySem.W.codeIn K cdv qual = true) (S : PSc scope) (msh : mg "PUSH_SHARE" = some (.int 32 tsh)) (mra : mg "range" = none) (hm0 : 0 ≤ many) (hm1 : many < 2 ^ 62) (hz : size ≠ 0)
    (h5 : ∀ (A : Around) (outer : List Env) (s : Shared) (H : Hp) (pn : List (Addr × Obj)), Room k (A.deeper (envOfC qual scope s.heap.objs.size f cdv)) →
      ∃ t, PSs (gcxOf P w K mg base pN qual scope f cdv A outer s H E00 pn) l5 t ∧ t { nx := fun σ' H' => σ' = [some (.int code), some (.int size), some (.int many), some (.int (code.fmod size)), some (.int code), none] ∧ H' = H, rt := fun _ _ => False } (start pN [.int code, .int size, .int many]) H)
    {A : Around} {outer : List Env} {s : Shared} {H : Hp} {args : Args} {us : List Value} (hr : Room (k + 1) A) (e0 : Env0 P w K mg base A outer s H)
    (hb : BindsTo s (PySem.W.fnOf name qual params (l5 ++ [.For (.Name "_" pt) (.Call (.Name "range" pr) [.Name "many" pmm] [] pcl) (loopBody p0 p0' p0'' p1 p2 p3 p4 p5 q1 q2 q3 q4 q5 q6 q7 q8 q9 q10 q11 k1 k2) [] pf]) scope dV kV doc pm an cdv ct) args (pP.zip us))
    (r : Vals [.int code, .int size, .int many] us) :
    codeAny (model P w) A (.call (.ref f) args) (fun r s' => match r with | .ok (.ret u) => ∃ a g c env, u = .ref a ∧ PMade P w (k + 1) outer H s many.toNat size code a g c env s' | _ => False) s := by
  have hl : [V.int code, .int size, .int many].length = pP.length := rfl
  have KX : K.In s.heap := e0.mod.kin.keeps fun b o e => (e0.bs b o e).1
  have lim : s.heap.NoLimit := e0.mod.nolimit.keeps fun b o e => (e0.bs b o e).1
  have hkind : ∀ y ∈ pP.zip us, scope.names.lookup y.1 = some .local ∨ (scope.names.lookup y.1 = some .cell ∧ ((cellsFrom (s.heap.objs.size + 1) scope.names []).lookup y.1).isSome = true) := fun ⟨n, v⟩ hy => by
    rcases S.S.par n (List.of_mem_zip hy).1 with q | q
    · exact .inl q
    · exact .inr ⟨q, PySem.W.cellsFrom_some _ _ _ (.inl q)⟩
  refine codeAny_call_generator hr.depth (KX _ _ lk) rfl S.S.co S.S.gen rfl (PySem.W.codeRec_of KX hcd) (hb _ _ _ _ ?_)
  refine wpAny_newFunctionEnv_cells S.S.kind hkind fun env he s1 x => ?_
  subst he
  have lim1 : s1.heap.NoLimit := lim.keeps x.toInCall.keep
  refine ⟨lim1, ?_⟩
  obtain ⟨h1, tk, es1, hk1⟩ := x.done
  have os1 : s1.os = s.os := by rw [es1]
  have gen1 : s1.gens = s.gens := by rw [es1]
  have lt1 : s.heap.objs.size < s1.heap.objs.size := x.toInCall.ns.lt
  have sz1 : s.heap.objs.size ≤ s1.heap.objs.size := Nat.le_of_lt lt1
  have kp1 : ∀ b o, s.heap.get? b = some o → s1.heap.get? b = some o := x.toInCall.keep
  have main : ∀ (go : Obj) (nm' qn : Value) (tk2 : Nat), go.cls = .type "generator" → go.data = .fields #[.int s1.gens.size 0, nm', qn] → go.slots = #[] → (∀ h : Heap, (h.push go).get? h.objs.size = some go) →
      PMade P w (k + 1) outer H s many.toNat size code s1.heap.objs.size s1.gens.size (.func (l5 ++ [.For (.Name "_" pt) (.Call (.Name "range" pr) [.Name "many" pmm] [] pcl) (loopBody p0 p0' p0'' p1 p2 p3 p4 p5 q1 q2 q3 q4 q5 q6 q7 q8 q9 q10 q11 k1 k2) [] pf]) (envOfC qual scope s.heap.objs.size f cdv)) (envOfC qual scope s.heap.objs.size f cdv)
        { s1 with gens := s1.gens.push (.fresh (.func (l5 ++ [.For (.Name "_" pt) (.Call (.Name "range" pr) [.Name "many" pmm] [] pcl) (loopBody p0 p0' p0'' p1 p2 p3 p4 p5 q1 q2 q3 q4 q5 q6 q7 q8 q9 q10 q11 k1 k2) [] pf]) (envOfC qual scope s.heap.objs.size f cdv))), toks := tk2, heap := s1.heap.push go } := by
    intro go nm' qn tk2 hgc hgd0 hgs hgp
    have hgen : ∀ h : Heap, h.get? s1.heap.objs.size = some go → h.IsGen s1.heap.objs.size s1.gens.size := fun h e => ⟨go, nm', qn, e, hgc, hgd0, hgs⟩
    have hpushed : (s1.heap.push go).get? s1.heap.objs.size = some go := hgp _
    have hG : mainGlobals < s.heap.objs.size := by
      obtain ⟨o, es, ep, ho, _⟩ := e0.mod.glob
      exact Heap.lt_size (e0.bs _ o ho).1
    have T : PEnv (envOfC qual scope s.heap.objs.size f cdv) := S.env
    have hint : interactive (envOfC qual scope s.heap.objs.size f cdv) = false := by
      unfold interactive
      rw [show (envOfC qual scope s.heap.objs.size f cdv).scope.kind = .function from S.S.kind]
      rfl
    have nG : (envOfC qual scope s.heap.objs.size f cdv).locals ≠ mainGlobals := Nat.ne_of_gt hG
    refine ⟨T, nG, Nat.le_refl _, lt1, ?_, hgen _ hpushed, Array.getElem?_push_size .., os1, ?_, lim1.keeps fun b o e => Heap.get?_push_of_some _ e, fun b o e => Heap.get?_push_of_some _ (kp1 b o e), ?_⟩
    · show _ = (s1.heap.push _).objs.size
      rw [Heap.size_push]
    · exact AllBare.push (by rw [gen1]; exact e0.bare) rfl
    intro Aw s2 xs hrw hfr hk2 hos hba hxs
    have e0w : Env0 P w K mg base Aw outer s H := ⟨hfr, e0.mod, e0.bs, e0.bsz, e0.funs, e0.frf, e0.hok, e0.bare⟩
    obtain ⟨t, ht, hq⟩ := h5 Aw outer s H [(s1.heap.objs.size, go)] (hrw.deeper _)
    have I1 : Inv (gcxOf P w K mg base pN qual scope f cdv Aw outer s H E00 []) [] (start pN [.int code, .int size, .int many]) H s1 := inv_startG S.S hrw.hd e0w hl r x
    have kp2 : ∀ b o, s1.heap.get? b = some o → s2.heap.get? b = some o := fun b o e => hk2 b o (Heap.get?_push_of_some _ e)
    have I2 : Inv (gcxOf P w K mg base pN qual scope f cdv Aw outer s H E00 []) [] (start pN [.int code, .int size, .int many]) H s2 :=
      I1.call' (ch := []) (hos.trans os1.symm) (Un.kept kp2) (I1.hok.kept kp2) hba fun b z => by simp at z
    have hea : s2.heap.get? s1.heap.objs.size = some go := hk2 s1.heap.objs.size go hpushed
    have hgd : ∀ v, go.data ≠ .cell v := fun v q => by rw [hgd0] at q; cases q
    have I3 : Inv (gcxOf P w K mg base pN qual scope f cdv Aw outer s H E00 [(s1.heap.objs.size, go)]) xs (start pN [.int code, .int size, .int many]) H s2 := Inv.pinnedG I2 fun p hp => by
      rcases List.mem_append.mp hp with z | z
      · rw [List.mem_singleton.mp z]
        exact ⟨hea, I1.hok.fresh (Nat.le_refl _), Nat.ne_of_gt lt1, I1.nofs (Nat.le_refl _), hgd⟩
      · obtain ⟨x1, x2, x3⟩ := hxs p z
        exact ⟨x1, I1.hok.fresh (Nat.le_of_lt x2), Nat.ne_of_gt (Nat.lt_trans lt1 x2), I1.nofs (Nat.le_of_lt x2), x3⟩
    -- the state's own word
    have word : ∀ {σ' : L2.St} {s3 : Shared}, Inv (gcxOf P w K mg base pN qual scope f cdv Aw outer s H E00 [(s1.heap.objs.size, go)]) xs σ' H s3 →
        (s3.os = s.os ∧ AllBare s3.gens ∧ Un (frs outer) [] H H s.heap s3.heap ∧ HOk P w H s3.heap ∧ s3.heap.IsGen s1.heap.objs.size s1.gens.size ∧ s3.heap.NoLimit ∧ ∀ p ∈ xs, s3.heap.get? p.1 = some p.2) := fun {σ' s3} J =>
      ⟨J.os, J.bare, J.base, J.hok, hgen _ (J.pin (s1.heap.objs.size, go) (List.mem_append_left _ (List.mem_singleton.mpr rfl))).1, J.nolimit, fun p hp => (J.pin p (List.mem_append_right _ hp)).1⟩
    have fall : ∀ (e : Value) (s' : Shared), (gcxOf P w K mg base pN qual scope f cdv Aw outer s H E00 [(s1.heap.objs.size, go)]).xe e s' → ∀ Φ : End → Shared → Prop, SegG (model P w) Aw Φ (.func (l5 ++ [.For (.Name "_" pt) (.Call (.Name "range" pr) [.Name "many" pmm] [] pcl) (loopBody p0 p0' p0'' p1 p2 p3 p4 p5 q1 q2 q3 q4 q5 q6 q7 q8 q9 q10 q11 k1 k2) [] pf]) (envOfC qual scope s.heap.objs.size f cdv))
        (Sem.wrap (fun _ => .raise e) .raise id id (leaving (envOfC qual scope s.heap.objs.size f cdv) e)) [] s' := fun e s' hx Φ => by
      refine sg_wrap ?_
      rw [over_func]
      refine wpAny_mono (show wpAny (model P w) (Aw.deeper (envOfC qual scope s.heap.objs.size f cdv)) (leaving (envOfC qual scope s.heap.objs.size f cdv) e) (fun _ s'' => CX P w outer H s E00 e s'' ∧ ∀ p ∈ [(s1.heap.objs.size, go)], s''.heap.get? p.1 = some p.2) (fun _ _ => False) s' from hx) (fun _ s'' q => ?_) fun _ s'' q => q.elim
      obtain ⟨⟨_, _, _, _, _, _, _, _, _, _, _, _, z⟩, _⟩ := q
      exact z.elim
    refine sg_func (sg_app (sg_wrap ?_))
    rw [over_func]
    refine wpAny_mono (ht.run xs s2 _ H _ I3 hq) (fun fl s3 hs => ?_) fun e s' hx => fall e s' hx _
    cases fl with
    | brk => obtain ⟨_, _, _, q⟩ := hs; exact False.elim q
    | cont => obtain ⟨_, _, _, q⟩ := hs; exact False.elim q
    | ret u => obtain ⟨_, _, _, _, _, q⟩ := hs; exact False.elim q
    | next =>
      obtain ⟨σ3, H3, J3, e3, e4⟩ := hs
      subst e3
      subst e4
      refine sg_execs_cons (sg_For (fun _ => rfl) ?_)
      rw [over_func]
      have hvis : Vis scope ("many" : Str) := .inl S.many
      refine wpAny_mono (run_range (j := many) (pm := pmm) (p := pr) (pos := pcl) J3 S.range mra rfl hvis rfl hm0 hm1) (fun v s4 h4 => wpAny_mono h4 (fun itv s5 h5' => ?_) fun e s' hx => fall e s' hx _) fun e s' hx => fall e s' hx _
      obtain ⟨it, rfl, hLit, hpit, hrg, J5⟩ := h5'
      have hLit' : s.heap.objs.size < it := hLit
      have hait : s1.heap.objs.size < it := hpit (s1.heap.objs.size, go) (List.mem_append_left _ (List.mem_singleton.mpr rfl))
      have hlows : ∀ b ∈ s1.heap.objs.size :: xs.map (·.1), b < it := fun b hb => by
        rcases List.mem_cons.mp hb with z | z
        · rw [z]; exact hait
        · obtain ⟨p, hp, rfl⟩ := List.mem_map.mp z
          exact hpit p (List.mem_append_right _ hp)
      have hit0 : it ≠ (envOfC qual scope s.heap.objs.size f cdv).locals := Nat.ne_of_gt hLit'
      have hitG : it ≠ mainGlobals := Nat.ne_of_gt (Nat.lt_trans hG hLit')
      have fm5 : Fm (envOfC qual scope s.heap.objs.size f cdv) s5.heap size (code.fmod size) code := by
        obtain ⟨m, hn, hl5⟩ := J5.loc
        have get : ∀ (i : Nat) (x : Str) (n : Int), pN[i]? = some x → scope.names.lookup x = some NameKind.local → ([some (.int code), some (.int size), some (.int many), some (.int (code.fmod size)), some (.int code), none] : L2.St)[i]? = some (some (.int n)) → ∃ t, m x = some (.int n t) := fun i x n h1 h2 h3 => by
          obtain ⟨u, ru, lu⟩ := hl5 i x _ h1 h3 (.inl h2)
          obtain ⟨t, rfl⟩ := ru
          rcases lu with ⟨_, hm⟩ | ⟨hk, _⟩
          · exact ⟨t, hm⟩
          · have hk' : scope.names.lookup x = some .cell ∨ scope.names.lookup x = some .free := hk
            rw [h2] at hk'
            rcases hk' with z | z <;> cases z
        exact ⟨⟨m, hn, get 3 _ _ rfl S.slot rfl, get 4 _ _ rfl S.push rfl, get 1 _ _ rfl S.size rfl⟩, ⟨mg, J5.mod.glob.keeps J5.bk, tsh, msh⟩⟩
      intro pp
      have ltL : ∀ b o, s.heap.get? b = some o → b ≠ s.heap.objs.size ∧ b ≠ it := fun b o e => ⟨Nat.ne_of_lt (Heap.lt_size e), Nat.ne_of_lt (Nat.lt_trans (Heap.lt_size e) hLit')⟩
      refine path_first T hint nG hit0 hitG hz hlows (fun sa sb hja hm => ?_) rfl ?_ (fun sa hN hja => ?_) (fun s₀ sa hja => ?_) ⟨fm5, hrg⟩ (word J5)
      · obtain ⟨h', tk', rfl, hk⟩ := hm
        obtain ⟨a1, a2, a3, a4, a5, a6, a7⟩ := hja
        have hLn : H3 s.heap.objs.size = none := e0.hok.fresh (Nat.le_refl _)
        have hIn : H3 it = none := e0.hok.fresh (Nat.le_of_lt hLit')
        have nt : ∀ b u, H3 b = some u → b ≠ s.heap.objs.size ∧ b ≠ it := fun b u e => ⟨ne_of_none e hLn, ne_of_none e hIn⟩
        have hcS : cStatics < s.heap.objs.size := let ⟨_, hn, _⟩ := lim; hn.lt
        refine ⟨a1, a2, ⟨fun b o e n hb hx => ?_, fun b o e n hb hx => ?_, a3.free, fun b o e hx => ?_, a3.tups, a3.frzs, a3.tbls⟩, fun b u e => ?_, ?_, ?_, fun p hp => hk p.1 p.2 (Nat.ne_of_gt (Nat.lt_trans lt1 (hxs p hp).2.1)) (Nat.ne_of_lt (hlows p.1 (List.mem_cons_of_mem _ (List.mem_map.mpr ⟨p, hp, rfl⟩)))) (a7 p hp)⟩
        · exact hk b o (ltL b o e).1 (ltL b o e).2 (a3.keep b o e n hb hx)
        · obtain ⟨sl', e'⟩ := a3.slot b o e n hb hx
          exact ⟨sl', hk b _ (ltL b o e).1 (ltL b o e).2 e'⟩
        · obtain ⟨o', e'⟩ := a3.there b o e hx
          exact ⟨o', hk b _ (ltL b o e).1 (ltL b o e).2 e'⟩
        · refine (a4 b u e).stay (fun c v hc q => ?_) (fun _ z => z) fun _ _ z => z
          rcases hc with hc | hc
          · rw [hc] at q ⊢
            exact hk b v (nt b u e).1 (nt b u e).2 q
          · exact hk c v (nt c _ hc).1 (nt c _ hc).2 q
        · obtain ⟨o, n1, n2, ho, z⟩ := a5
          exact ⟨o, n1, n2, hk _ o (Nat.ne_of_gt lt1) (Nat.ne_of_lt hait) ho, z⟩
        · obtain ⟨mc, hns, hnn⟩ := a6
          exact ⟨mc, hns.at' fun o e => hk _ o (Nat.ne_of_lt hcS) (Nat.ne_of_lt (Nat.lt_trans hcS hLit')) e, hnn⟩
      · exact hrw.hd
      · exact sg_end (.ok (.ret .none)) ⟨rfl, hN, hja⟩
      · exact seg_end (.ok (.ret .none)) ⟨rfl, rfl, hja⟩
  exact ⟨_, _, _, _, rfl, main _ _ _ _ rfl rfl rfl fun h => Heap.get?_push_size _ rfl⟩
end
end Pth
set_option Elab.async false
set_option linter.all false
set_option maxRecDepth 100000
set_option maxHeartbeats 1000000
/-! Pf: a for over path(..), its body by a judgement; list(path(..)) -/
namespace Pth
open PySem PySem.Spec PyProof.Rows L2 GenW
open Sem (wp)
section
variable {M : Model}
theorem resume_first {A : Around} {Φ : End → Shared → Prop} {E : Value → Shared → Prop} {s : Shared} {g : Nat} {c : Code} {l : List Value} {α : Type} {k : GenResult → Sem α} {Q : α → Shared → Prop} (hg : s.gens[g]? = some (.fresh c))
    (hgo : SegG M A Φ c (M.den c) [] (s.setGen g .running))
    (hR : ∀ e s₁, Φ e s₁ → e.quiet = true ∧ wpAny M A (k e.result) Q E (s₁.setGen g e.genState)) : wpAny M A (.resume g (.send .none) l k) Q E s := by
  intro Γ p hΓ
  rw [Sem.wp_resume]
  obtain ⟨e₁, s₁, hr, he⟩ := hgo (Γ.wake c p) p rfl (hΓ.wake c p)
  obtain ⟨hq, hw⟩ := hR e₁ s₁ he
  exact ⟨_, _, by unfold Wakes; rw [hg]; exact ⟨e₁, s₁, hr, hq, rfl, rfl⟩, hw Γ p hΓ⟩
theorem resume_later {A : Around} {R : GenEnd} {Y : Protocol} {n : Nat} {E : Value → Shared → Prop} {s : Shared} {g : Nat} {k₀ : Resume → Sem PySem.Fin} {l₀ : List Value} {c₀ : Code} {p₀ : Pos} {fs₀ : List Frame} {cl₀ : Bool} {r : Resume} {l : List Value} {α : Type} {k : GenResult → Sem α} {Q : α → Shared → Prop}
    (hg : s.gens[g]? = some (.suspended k₀ l₀ c₀ p₀ fs₀ cl₀))
    (hgo : Seg M A R Y n (s.setGen g .running) c₀ (k₀ r) fs₀ (s.setGen g .running))
    (hR : ∀ e s₁, SegEnd R Y n (Seg.next M A R Y n) (s.setGen g .running) e s₁ → e.quiet = true ∧ wpAny M A (k e.result) Q E (s₁.setGen g e.genState)) : wpAny M A (.resume g r l k) Q E s := by
  intro Γ p hΓ
  rw [Sem.wp_resume]
  obtain ⟨e₁, s₁, hr, he⟩ := seg_iff.mp hgo (Γ.wake c₀ p) p₀ rfl (hΓ.wake c₀ p)
  obtain ⟨hq, hw⟩ := hR e₁ s₁ he
  exact ⟨_, _, by unfold Wakes; rw [hg]; exact ⟨e₁, s₁, hr, hq, rfl, rfl⟩, hw Γ p hΓ⟩
end
section
variable {P : Program} {w : World} {A : Around} {E : Value → Shared → Prop} {s : Shared}
theorem next_first {a : Addr} {g : Nat} {c : Code} {Φ : End → Shared → Prop} {Q : Option Value → Shared → Prop} (hh : A.handled = none) (hl : s.heap.NoLimit) (hroom : A.depth < recursionLimit) (hg : s.heap.IsGen a g) (hgs : s.gens[g]? = some (.fresh c))
    (hgo : SegG (model P w) A.in1 Φ c ((model P w).den c) [] (s.setGen g .running))
    (hR : ∀ e s₁, Φ e s₁ → (e = .ret (.ok (.ret .none)) ∧ ∀ h', (∀ b o, s₁.heap.get? b = some o → h'.get? b = some o) → Q none { s₁.setGen g .finished with heap := h' }) ∨
      ∃ v gd l k c' p' fs, e = .susp v gd l k c' p' fs ∧ e.quiet = true ∧ Q (some v) (s₁.setGen g e.genState)) :
    wpAny (model P w) A (pyNext (.ref a)) Q E s := by
  unfold pyNext
  refine wpAny_bind (wpAny_attempt (wpAny_callSpecial?_slot (name := Str.ofString "__next__") hg.typeIs slot_gen_next
    (wpAny_call_entry slot_gen_next hg.typeIs entry_gen_next ?_ (args_gen_next _))))
  show wpAny _ A.in1 (Builtin.Generator.genWake (.ref a) (.send .none)) _ _ s
  unfold Builtin.Generator.genWake
  refine wpAny_bind (wpAny_holding (wpAny_genNumber hg (wpAny_bind (wpAny_genState hgs ?_))))
  refine wpAny_bind (wpAny_roomToWake hl hroom ?_)
  show wpAny _ A.in1 (.resume g (.send .none) [] _) _ _ s
  refine resume_first hgs hgo fun e s₁ he => ?_
  rcases hR e s₁ he with ⟨rfl, h⟩ | ⟨v, gd, l, k, c', p', fs, rfl, hq, h⟩
  · refine ⟨rfl, ?_⟩
    show wpAny _ A.in1 (newExc (.type "StopIteration") [] >>= _) _ _ _
    refine wpAny_bind ?_
    simp only [newExc, newTuple]
    refine wpAny_bind (wpAny_newObj_type ?_ (by size_fits))
    refine wpAny_bind (m := firstArgMember _ _) (wpAny_of_eq (a := Value.none) (by first | rfl | (simp only [firstArgMember]; rfl)) ?_)
    refine wpAny_newObj_type ?_ (by size_fits)
    simp only [raiseNew]
    refine wpAny_bind (wpAny_bind (wpAny_handled ?_))
    first | rw [show A.in1.handled = none from hh] | rw [hh]
    refine wpAny_throw ?_
    refine wpAny_bind (wpAny_isInstance (T := "StopIteration") (b := true) ⟨_, Heap.get?_push_size _ rfl, rfl⟩ isSubtype_stop ?_)
    exact wpAny_pure (h _ fun b o hb => Heap.get?_push_of_some _ (Heap.get?_push_of_some _ hb))
  · exact ⟨hq, wpAny_pure ⟨v, rfl, wpAny_pure h⟩⟩
theorem next_later {a : Addr} {g n : Nat} {R : GenEnd} {Y : Protocol} {k₀ : Resume → Sem PySem.Fin} {l₀ : List Value} {c₀ : Code} {p₀ : Pos} {fs₀ : List Frame} {cl₀ : Bool} {Q : Option Value → Shared → Prop} (hh : A.handled = none) (hl : s.heap.NoLimit) (hroom : A.depth < recursionLimit) (hg : s.heap.IsGen a g)
    (hgs : s.gens[g]? = some (.suspended k₀ l₀ c₀ p₀ fs₀ cl₀))
    (hgo : Seg (model P w) A.in1 R Y n (s.setGen g .running) c₀ (k₀ (.send .none)) fs₀ (s.setGen g .running))
    (hR : ∀ r s₁, R n (s.setGen g .running) r s₁ → r = .ok (.ret .none) ∧ ∀ h', (∀ b o, s₁.heap.get? b = some o → h'.get? b = some o) → Q none { s₁.setGen g .finished with heap := h' })
    (hY : ∀ v gd l k c' p' fs s₁, (End.susp v gd l k c' p' fs).quiet = true → Y (n - 1) (s.setGen g .running) v s₁ (fun r s'' => Seg.next (model P w) A.in1 R Y n c' (k r) fs s'') → Q (some v) (s₁.setGen g (End.susp v gd l k c' p' fs).genState)) :
    wpAny (model P w) A (pyNext (.ref a)) Q E s := by
  unfold pyNext
  refine wpAny_bind (wpAny_attempt (wpAny_callSpecial?_slot (name := Str.ofString "__next__") hg.typeIs slot_gen_next
    (wpAny_call_entry slot_gen_next hg.typeIs entry_gen_next ?_ (args_gen_next _))))
  show wpAny _ A.in1 (Builtin.Generator.genWake (.ref a) (.send .none)) _ _ s
  unfold Builtin.Generator.genWake
  refine wpAny_bind (wpAny_holding (wpAny_genNumber hg (wpAny_bind (wpAny_genState hgs ?_))))
  refine wpAny_bind (wpAny_roomToWake hl hroom ?_)
  show wpAny _ A.in1 (.resume g (.send .none) [] _) _ _ s
  refine resume_later hgs hgo fun e s₁ he => ?_
  cases e with
  | ret r =>
    obtain ⟨rfl, h⟩ := hR r s₁ he
    refine ⟨rfl, ?_⟩
    show wpAny _ A.in1 (newExc (.type "StopIteration") [] >>= _) _ _ _
    refine wpAny_bind ?_
    simp only [newExc, newTuple]
    refine wpAny_bind (wpAny_newObj_type ?_ (by size_fits))
    refine wpAny_bind (m := firstArgMember _ _) (wpAny_of_eq (a := Value.none) (by first | rfl | (simp only [firstArgMember]; rfl)) ?_)
    refine wpAny_newObj_type ?_ (by size_fits)
    simp only [raiseNew]
    refine wpAny_bind (wpAny_bind (wpAny_handled ?_))
    first | rw [show A.in1.handled = none from hh] | rw [hh]
    refine wpAny_throw ?_
    refine wpAny_bind (wpAny_isInstance (T := "StopIteration") (b := true) ⟨_, Heap.get?_push_size _ rfl, rfl⟩ isSubtype_stop ?_)
    exact wpAny_pure (h _ fun b o hb => Heap.get?_push_of_some _ (Heap.get?_push_of_some _ hb))
  | susp v gd l k c' p' fs =>
    obtain ⟨hq, h⟩ := he
    exact ⟨hq, wpAny_pure ⟨v, rfl, wpAny_pure (hY v gd l k c' p' fs s₁ hq h)⟩⟩
end

/-! ### the consumer -/
/-- what path takes -/
def POk (code size many : Int) : Prop := 0 ≤ code ∧ code < 4294967296 ∧ size ∈ ([8, 16, 32, 64, 128, 256, 512, 1024, 2048, 4096] : List Int) ∧ 0 ≤ many ∧ many < 2 ^ 62
/-- path, called -/
def PathDef (P : Program) (w : World) (K : PySem.W.Frag) (mg : Str → Option Value) (base : Heap) (k : Nat) (f : Addr) (fd : FuncData) : Prop :=
  ∀ {code size many : Int}, POk code size many → ∀ {A : Around} {outer : List Env} {s : Shared} {H : Hp} {args : Args} {us : List Value}, Room k A → Env0 P w K mg base A outer s H → BindsTo s fd args (pP.zip us) → Vals [.int code, .int size, .int many] us →
    codeAny (model P w) A (.call (.ref f) args) (fun r s' => match r with | .ok (.ret u) => ∃ a g c env, u = .ref a ∧ PMade P w k outer H s many.toNat size code a g c env s' | _ => False) s
section
variable {X : Cx} {pins : List (Addr × Obj)} {σ : L2.St} {H : Hp} {s : Shared}
/-- with other generators -/
theorem Inv.withG (I : Inv X pins σ H s) {G : Array GenState} (h : AllBare G) : Inv X pins σ H (Fk.gw s G) := ⟨I.ok, I.os, h, I.base, I.loc, I.cell, I.free, I.freeC, I.pin, I.hok, I.len⟩
/-- where the generator at a stands, i slots out, asleep -/
structure Asleep (X : Cx) (B : Around) (env : Env) (a : Addr) (g : Nat) (N : Nat) (size code : Int) (low : Nat) (i : Nat) (it : Addr) (H : Hp) (s : Shared) : Prop where
  lowIt : low ≤ it
  gen : s.heap.IsGen a g
  st : LSy env it N size code (i - 1) s.heap
  nT : ∀ b ∈ [a, env.locals, it], H b = none
  at_ : ∃ k l c p fs cl, s.gens[g]? = some (.suspended k l c p fs cl) ∧ cl = false ∧ ∀ s'', Slp env it s s'' → Seg (model X.prog X.w) B (RP (fun _ _ => True) env.locals it N) (YP (fun _ _ => True) env it N size code) (N - i) s'' c (k (.send .none)) fs s''
/-- at the loop's head, i slots out -/
inductive Head (X : Cx) (B : Around) (s0 : Shared) (σ0 : L2.St) (H0 : Hp) (env : Env) (a : Addr) (g : Nat) (N : Nat) (size code : Int) (low : Nat) : Nat → L2.St → Hp → Shared → Prop
  | begin : Head X B s0 σ0 H0 env a g N size code low 0 σ0 H0 s0
  | amid {i : Nat} {it : Addr} {σ : L2.St} {H : Hp} {s : Shared} : 0 < i → Asleep X B env a g N size code low i it H s → Head X B s0 σ0 H0 env a g N size code low i σ H s
/-- the slots, as they come: Pv i holds ahead of the turn i -/
def tForP (i : Nat) (ta : TA) (tb : TS) : TS := fun D σ H => ta σ H fun vs H1 => ∃ code size many : Int, vs = [.int code, .int size, .int many] ∧ POk code size many ∧ ∃ Pv : Nat → L2.St → Hp → Prop, Pv 0 σ H1 ∧
  (∀ n σ' H', n < many.toNat → Pv n σ' H' → tb { D with nx := Pv (n + 1), ct := Pv (n + 1), bk := D.nx } (σ'.set i (some (.int (sl size code n)))) H') ∧ ∀ σ' H', Pv many.toNat σ' H' → D.nx σ' H'

/-- the generator's own things have turned -/
theorem inv_mv {L it : Addr} {s' : Shared} (I : Inv X pins σ H s) (m : Mv L it s s') (f1 : FpOk X pins H L) (f2 : FpOk X pins H it) : Inv X pins σ H s' := by
  obtain ⟨h', tk, rfl, k⟩ := m
  obtain ⟨a0, a1, a2, a3, a4, a5⟩ := f1
  obtain ⟨b0, b1, b2, b3, b4, b5⟩ := f2
  have ne : ∀ b, b ∉ [L, it] → b ≠ L ∧ b ≠ it := fun b hb => ⟨fun z => hb (by rw [z]; simp), fun z => hb (by rw [z]; simp)⟩
  have nt : ∀ b u, H b = some u → b ≠ L ∧ b ≠ it := fun b u e => ⟨ne_of_none e a0, ne_of_none e b0⟩
  refine I.step (g' := s.gens) (d' := s.drawn) (ch := [L, it]) (fun b hb => ?_) (fun b o _ _ hc e _ => k b o (ne b hc).1 (ne b hc).2 e) (fun b o _ _ hc e _ => ⟨o.slots, k b o (ne b hc).1 (ne b hc).2 e⟩) (fun _ _ _ _ n => n)
    (fun b o hc e => ⟨o, k b o (ne b hc).1 (ne b hc).2 e⟩) (fun _ _ e => e) (fun _ _ _ e => e) (fun b ps e => ⟨#[], by rw [e]; simp⟩) (fun m hm => ?_) (fun b u e => ?_) I.bare
  · rcases List.mem_cons.mp hb with e | hb
    · rw [e]; exact ⟨a3, a1, a4, a5⟩
    · rw [List.mem_singleton.mp hb]; exact ⟨b3, b1, b4, b5⟩
  · obtain ⟨o, es, ep, ho, r⟩ := hm
    exact ⟨o, es, ep, k _ o (Ne.symm a1) (Ne.symm b1) ho, r⟩
  · refine (I.hok b u e).stay (fun c v hc q => ?_) (fun _ q => q) fun _ _ q => q
    rcases hc with z | z
    · rw [z] at q ⊢
      exact k b v (nt b u e).1 (nt b u e).2 q
    · exact k c v (nt c _ z).1 (nt c _ z).2 q
theorem turn_body {B : Around} {env : Env} {a g : Nat} {N : Nat} {size code : Int} {low : Nat} {i ix : Nat} {it : Addr} {x : Str} {px : Pos} {body : List Stmt} {tb : TS} {D : Ends} {N' : L2.St → Hp → Prop} {v : V} {u : Value} {E : Value → Shared → Prop}
    (I : Inv X pins σ H s) (hA : Asleep X B env a g N size code low i it H s) (yg : ∀ b ∈ [a, env.locals, it], ∀ H' : Hp, H' b = none → FpOk X pins H' b) (hN : X.N.Nodup) (hi : X.N[ix]? = some x) (hx : Loc X.env.scope x) (hf : X.fn x = true ∨ X.env.scope.names.lookup x = some .local)
    (hbd : PSs X.nox body tb) (rv : RelV v u) (ht : tb { D with nx := N', ct := N', bk := D.nx } (σ.set ix (some v)) H) :
    wpAny (model X.prog X.w) X.A (assign (.Name x px) X.env u) (fun _ s6 => wpAny (model X.prog X.w) X.A (execs body X.env) (fun f s7 => match f with
      | .next | .cont => ∃ σ7 H7, Inv X pins σ7 H7 s7 ∧ N' σ7 H7 ∧ Asleep X B env a g N size code low i it H7 s7
      | .brk => ∃ σ7 H7, Inv X pins σ7 H7 s7 ∧ D.nx σ7 H7
      | .ret u => ∃ v σ7 H7, Inv X pins σ7 H7 s7 ∧ RelV v u ∧ D.rt v H7) E s6) E s := by
  obtain ⟨hlow, hgen, hst, hnT, ⟨k, l, c, p, fs, cl, hgs, hcl, hsl⟩⟩ := hA
  have R := Fk.rel_faked s.gens
  have bF : AllBare (Fk.faked s.gens) := Fk.bare_faked I.bare
  have I5 : Inv X pins σ H (Fk.gw s (Fk.faked s.gens)) := Inv.withG I bF
  obtain ⟨mm, hmm, _⟩ := hst.fm.ns
  have hob : ∀ b ∈ [a, env.locals, it], ∃ o, s.heap.get? b = some o ∧ ∀ v, o.data ≠ .cell v := fun b hb => by
    rcases List.mem_cons.mp hb with e | hb
    · rw [e]
      obtain ⟨o, n1, n2, ho, _, hd, _⟩ := hgen
      exact ⟨o, ho, fun v z => by rw [hd] at z; cases z⟩
    · rcases List.mem_cons.mp hb with e | hb
      · rw [e]
        obtain ⟨o, es, ep, ho, hd, _⟩ := hmm
        exact ⟨o, ho, fun v z => by rw [hd] at z; cases z⟩
      · rw [List.mem_singleton.mp hb]
        exact ⟨_, hst.rg, fun v z => by
          have z' : Data.fields _ = Data.cell v := z
          cases z'⟩
  have Ip : Inv X (pins ++ pinsAt [a, env.locals, it] s.heap) σ H (Fk.gw s (Fk.faked s.gens)) := I5.pinned (fun b hb => yg b hb H (hnT b hb)) hob
  have hbare : ∀ i x, Fk.sleepers s.gens i = some x → x.bare = true := Fk.sleepers_bare I.bare
  -- over the replaced ones
  have h1 : wpAny (model X.prog X.w) X.A (assign (.Name x px) X.env u) (fun _ s6 => wpAny (model X.prog X.w) X.A (execs body X.env) (SP X.nox (pins ++ pinsAt [a, env.locals, it] s.heap) { D with nx := N', ct := N', bk := D.nx }) (fun _ _ => False) s6) (fun _ _ => False) (Fk.gw s (Fk.faked s.gens)) := by
    refine wpAny_assign_Name (store_ok Ip hN hi hx rv (fun s6 I6 => ?_) hf)
    exact hbd.run _ s6 _ H _ (I6.wish _) ht
  have h2 := Fk.wpAny_fk (G := s.gens) R h1
  refine wpAny_mono h2 (fun _ s6 h6 => ?_) fun _ _ ⟨_, _, z⟩ => z.elim
  obtain ⟨G0, R0, h6⟩ := h6
  have h7 := Fk.wpAny_fk (s := Fk.gw s6 G0) (G := s6.gens) R0 h6
  refine wpAny_mono h7 (fun f s7 q7 => ?_) fun _ _ ⟨_, _, z⟩ => z.elim
  obtain ⟨G1, R1, q7⟩ := q7
  have real : ∀ {σ7 : L2.St} {H7 : Hp}, Inv X.nox (pins ++ pinsAt [a, env.locals, it] s.heap) σ7 H7 (Fk.gw s7 G1) → Inv X (pins ++ pinsAt [a, env.locals, it] s.heap) σ7 H7 s7 := fun {σ7 H7} J => by
    have b7 : AllBare s7.gens := Fk.bare_real R1 hbare J.bare
    exact Inv.withG (s := Fk.gw s7 G1) J.unwish b7
  have asl : ∀ {σ7 : L2.St} {H7 : Hp}, Inv X (pins ++ pinsAt [a, env.locals, it] s.heap) σ7 H7 s7 → Asleep X B env a g N size code low i it H7 s7 := fun {σ7 H7} J => by
    have kept : ∀ b ∈ [a, env.locals, it], ∀ o, s.heap.get? b = some o → s7.heap.get? b = some o ∧ H7 b = none := fun b hb o e => by
      have := J.pin (b, o) (List.mem_append_right _ (List.mem_append_right _ (mem_pinsAt hb e)))
      exact ⟨this.1, this.2.1⟩
    have slp : Slp env it s s7 := fun b o hb e => by
      rcases hb with e1 | e1 | e1
      · exact (kept b (by rw [e1]; simp) o e).1
      · exact (kept b (by rw [e1]; simp) o e).1
      · obtain ⟨og, es, ep, ho, _⟩ := I.mod.glob
        have z1 := I.bk _ _ ho
        have z2 := J.bk _ _ ho
        rw [e1] at e ⊢
        rw [z1] at e
        cases e
        exact z2
    refine ⟨hlow, ?_, hst.keeps slp, fun b hb => ?_, k, l, c, p, fs, cl, ?_, hcl, fun s'' z => hsl s'' fun b o hb e => z b o hb (slp b o hb e)⟩
    · obtain ⟨o, n1, n2, ho, z⟩ := hgen
      exact ⟨o, n1, n2, (kept a (by simp) o ho).1, z⟩
    · obtain ⟨o, ho, _⟩ := hob b hb
      exact (kept b hb o ho).2
    · exact (R1.fake g _ (Fk.sleepers_at hgs rfl)).2.2
  cases f with
  | next => obtain ⟨σ7, H7, J, n7⟩ := q7; exact ⟨σ7, H7, (real J).unpinned, n7, asl (real J)⟩
  | cont => obtain ⟨σ7, H7, J, n7⟩ := q7; exact ⟨σ7, H7, (real J).unpinned, n7, asl (real J)⟩
  | brk => obtain ⟨σ7, H7, J, n7⟩ := q7; exact ⟨σ7, H7, (real J).unpinned, n7⟩
  | ret u => obtain ⟨v7, σ7, H7, J, r7, n7⟩ := q7; exact ⟨v7, σ7, H7, (real J).unpinned, r7, n7⟩

/-- what a turn of the loop comes to -/
def TurnP (X : Cx) (pins : List (Addr × Obj)) (env : Env) (a g N : Nat) (size code : Int) (low : Nat) (it : Addr) (i : Nat) (D : Ends) (N' : L2.St → Hp → Prop) (f : Flow) (s7 : Shared) : Prop := match f with
  | .next | .cont => ∃ σ7 H7, Inv X pins σ7 H7 s7 ∧ N' σ7 H7 ∧ Asleep X X.A.in1 env a g N size code low i it H7 s7
  | .brk => ∃ σ7 H7, Inv X pins σ7 H7 s7 ∧ D.nx σ7 H7
  | .ret u => ∃ v σ7 H7, Inv X pins σ7 H7 s7 ∧ RelV v u ∧ D.rt v H7
theorem ps_forP {f : Addr} {fd : FuncData} {k ix : Nat} {nmp x : Str} {px p pos' pos : Pos} {e : Expr} {es : List Expr} {ta : TA} {body : List Stmt} {tb : TS}
    (F : PathDef X.prog X.w X.K X.mg X.base k f fd) (hr : Room (k + 1) X.A) (hg : Gl X nmp) (hm : X.mg nmp = some (.ref f)) (hk : PySem.W.keepIn X.K (.ref f) = true) (hb : Binds X.K fd pP []) (ha : PA X (e :: es) ta) (hp : PassesOwn (model X.prog X.w) X.A X.env X.xe) (hc : X.calm = true)
    (hN : X.N.Nodup) (hi : X.N[ix]? = some x) (hx : Loc X.env.scope x) (hbd : PSs X.nox body tb) (hf : X.fn x = true ∨ X.env.scope.names.lookup x = some .local := by first | exact .inl rfl | exact .inr rfl | assumption)
    (hdb : (nmp == ("__debug__" : Str)) = false := by decide) (he : starEach (e :: es) X.env = (false, eval e X.env) :: starEach es X.env := by rfl) (hpl : (backTo pos' (starEach es X.env)).any (·.1) = false := by rfl)
    (hs : ∀ v, foldedSetIterable (.Call (.Name nmp p) (e :: es) [] pos') X.env v = pure v := by intro _; rfl) :
    PS X (.For (.Name x px) (.Call (.Name nmp p) (e :: es) [] pos') body [] pos) (tForP ix ta tb) := by
  refine ⟨fun pins s σ H D I h => ?_⟩
  refine wpAny_For ?_ hs
  refine wpAny_Call_Name_kw (ld_glob I hg hm ?_ hdb)
  refine PySem.W.callWith_K (h₀ := X.base) I.ok.mod.kin hk (thn (ha.run pos' pins s σ H _ I h) fun us s1 ⟨vs, H1, I1, r1, q1⟩ => ⟨I1.kIn, ?_⟩) he hpl
  obtain ⟨code, size, many, rfl, ok, Pv, h0, hturn, hdone⟩ := q1
  have hl2 : us.length = 3 := r1.length.symm
  have hbt : BindsTo s1 fd ⟨us, []⟩ (pP.zip us) := by
    have := hb s1 us I1.kIn (by rw [List.append_nil]; exact hl2)
    rw [List.append_nil] at this
    exact this
  refine wpAny_call (codeAny_mono (F ok (hr.mono (Nat.le_succ _)) I1.env0 hbt r1) fun r s2 hq => ?_)
  cases r with
  | error e => exact False.elim hq
  | ok fl =>
  cases fl with
  | next => exact False.elim hq
  | brk => exact False.elim hq
  | cont => exact False.elim hq
  | ret u =>
  obtain ⟨a, g, c, env, rfl, m⟩ := hq
  refine wpAny_pyIter_gen m.gen ?_
  have hh : X.A.handled = none := I.ok.hd hc
  have hsz : s1.heap.objs.size ≤ s2.heap.objs.size := by
    have h1 : @LE.le Nat _ s1.heap.objs.size env.locals := m.young
    have h2 : @LT.lt Nat _ env.locals a := m.La
    have h3 : @Eq Nat (a + 1) s2.heap.objs.size := m.aE
    omega
  have I2 : Inv X pins σ H1 s2 := I1.call' (ch := []) m.os (Un.kept m.keep) (I1.hok.kept m.keep) m.bare fun b z => by simp at z
  have hgl : g < s2.gens.size := (Array.getElem?_eq_some_iff.mp m.fresh).1
  have yg : ∀ it : Addr, a + 1 ≤ it → ∀ b ∈ [a, env.locals, it], ∀ H' : Hp, H' b = none → FpOk X pins H' b := fun it hit b hb' H' hn => by
    have h1 : @LE.le Nat _ s1.heap.objs.size env.locals := m.young
    have h2 : @LT.lt Nat _ env.locals a := m.La
    have h3 : @LE.le Nat _ (a + 1) it := hit
    refine I1.fpOk ?_ hn
    show @LE.le Nat _ s1.heap.objs.size b
    rcases List.mem_cons.mp hb' with z | z
    · have z : @Eq Nat b a := z
      omega
    · rcases List.mem_cons.mp z with z | z
      · have z : @Eq Nat b env.locals := z
        omega
      · have z : @Eq Nat b it := List.mem_singleton.mp z
        omega
  -- a slot is out: the turn
  have go : ∀ (i : Nat) (it : Addr) (σ5 : L2.St) (H5 : Hp) (s5 : Shared) (t : Tok), i < many.toNat → a + 1 ≤ it → Inv X pins σ5 H5 s5 → Pv i σ5 H5 → Asleep X X.A.in1 env a g many.toNat size code (a + 1) (i + 1) it H5 s5 →
      wpAny (model X.prog X.w) X.A (assign (.Name x px) X.env (.int (sl size code i) t)) (fun _ s6 => wpAny (model X.prog X.w) X.A (execs body X.env) (TurnP X pins env a g many.toNat size code (a + 1) it (i + 1) D (Pv (i + 1))) (fun _ _ => False) s6) (fun _ _ => False) s5 := fun i it σ5 H5 s5 t hlt hit I5 hP hA => by
    refine wpAny_mono (turn_body I5 hA (yg it hit) hN hi hx hf hbd (v := .int (sl size code i)) ⟨t, rfl⟩ (hturn i σ5 H5 hlt hP)) (fun _ s6 h6 => wpAny_mono h6 (fun f s7 h7 => ?_) fun _ _ z => z) fun _ _ z => z
    cases f <;> exact h7
  refine codeAny_forLoop_any (fun n s' => ∃ i σ' H', i ≤ many.toNat ∧ n = many.toNat - i ∧ Inv X pins σ' H' s' ∧ Pv i σ' H' ∧ Head X X.A.in1 s2 σ H1 env a g many.toNat size code (a + 1) i σ' H' s') ?_ many.toNat ⟨0, σ, H1, Nat.zero_le _, by omega, I2, h0, .begin⟩
  rintro n s3 ⟨i, σ3, H3, hle, rfl, I3, hP, hd⟩
  -- behind the turn's body
  have fin : ∀ {it : Addr} {f : Flow} {s7 : Shared}, i < many.toNat → TurnP X pins env a g many.toNat size code (a + 1) it (i + 1) D (Pv (i + 1)) f s7 →
      (match f with
        | .next | .cont => ∃ m, m < many.toNat - i ∧ ∃ i σ' H', i ≤ many.toNat ∧ m = many.toNat - i ∧ Inv X pins σ' H' s7 ∧ Pv i σ' H' ∧ Head X X.A.in1 s2 σ H1 env a g many.toNat size code (a + 1) i σ' H' s7
        | .brk => SP X pins D .next s7
        | .ret v => SP X pins D (.ret v) s7) := fun {it f s7} hlt q => by
    cases f with
    | next => obtain ⟨σ7, H7, J, n7, z⟩ := q; exact ⟨many.toNat - (i + 1), by omega, i + 1, σ7, H7, by omega, rfl, J, n7, .amid (Nat.succ_pos _) z⟩
    | cont => obtain ⟨σ7, H7, J, n7, z⟩ := q; exact ⟨many.toNat - (i + 1), by omega, i + 1, σ7, H7, by omega, rfl, J, n7, .amid (Nat.succ_pos _) z⟩
    | brk => obtain ⟨σ7, H7, J, n7⟩ := q; exact ⟨σ7, H7, J, n7⟩
    | ret u => obtain ⟨v7, σ7, H7, J, r7, n7⟩ := q; exact ⟨v7, σ7, H7, J, r7, n7⟩
  -- the turn, from where the slot is out
  have turn : ∀ {it : Addr} {s5 : Shared} {t : Tok} {σ5 : L2.St} {H5 : Hp} {Z : Flow → Shared → Prop} {E : Value → Shared → Prop}, i < many.toNat → a + 1 ≤ it → Inv X pins σ5 H5 s5 → Pv i σ5 H5 → Asleep X X.A.in1 env a g many.toNat size code (a + 1) (i + 1) it H5 s5 →
      (∀ f s7, TurnP X pins env a g many.toNat size code (a + 1) it (i + 1) D (Pv (i + 1)) f s7 → Z f s7) →
      wpAny (model X.prog X.w) X.A (letOwnedTupleGo (.Name x px) (.ref a) (.int (sl size code i) t)) (fun _ s₁' => wpAny (model X.prog X.w) X.A (assign (.Name x px) X.env (.int (sl size code i) t)) (fun _ s₂ => wpAny (model X.prog X.w) X.A (execs body X.env) Z E s₂) E s₁') E s5 := fun {it s5 t σ5 H5 Z E} hlt hit I5 hP5 hA hZ => by
    refine wpAny_pure ?_
    exact wpAny_mono (go i it σ5 H5 s5 t hlt hit I5 hP5 hA) (fun _ s6 h6 => wpAny_mono h6 (fun f s7 h7 => hZ f s7 h7) fun _ _ z => z.elim) fun _ _ z => z.elim
  cases hd with
  | begin =>
    refine wpAny_gsz (n := g + 1) hgl (next_first hh I2.nolimit hr.depth m.gen m.fresh (m.wake X.A.in1 (s2.setGen g .running) [] hr.in1 I2.ok.frames (fun _ _ e => e) m.os (allBare_setGen m.bare rfl) (fun p hp => by simp at hp)) fun e s₁ he => ?_)
    cases e with
    | ret r =>
      obtain ⟨rfl, hN0, ⟨j1, j2, j3, j4, j5, j6, _⟩⟩ := he
      refine .inl ⟨rfl, fun h' hk' _ => ?_⟩
      have I4 : Inv X pins σ H1 s₁ := I1.call' (ch := []) j1 j3 j4 j2 fun b z => by simp at z
      have I5 : Inv X pins σ H1 { s₁.setGen g .finished with heap := h' } := Inv.withG (I4.kept (t' := s₁.toks) hk') (allBare_setGen j2 rfl)
      refine wpAny_execs_nil ?_
      rw [hN0] at hdone
      exact ⟨σ, H1, I5, hdone σ H1 hP⟩
    | susp v gd l k₁ c₁ p₁ fs₁ =>
      obtain ⟨hq, hN0, ⟨t, rfl⟩, ⟨j1, j2, j3, j4, j5, j6, _⟩, it, hit', hst, hsl⟩ := he
      have hit : a + 1 ≤ it := Nat.succ_le_of_lt (hit' a List.mem_cons_self)
      refine .inr ⟨_, gd, l, k₁, c₁, p₁, fs₁, rfl, hq, fun hsz' => ?_⟩
      have I4 : Inv X pins σ H1 s₁ := I1.call' (ch := []) j1 j3 j4 j2 fun b z => by simp at z
      have hcl : (gd || fs₁.any Frame.guarded) = false := by
        have : (!(gd || fs₁.any Frame.guarded)) = true := hq
        simpa using this
      have hb' : (End.susp (Value.int (sl size code 0) t) gd l k₁ c₁ p₁ fs₁).genState.bare = true := End.bare_of_quiet hq
      have I5 : Inv X pins σ H1 (s₁.setGen g (End.susp (Value.int (sl size code 0) t) gd l k₁ c₁ p₁ fs₁).genState) := Inv.withG I4 (allBare_setGen j2 hb')
      have hgs1 : g < s₁.gens.size := by
        have q : (s₁.setGen g (End.susp (Value.int (sl size code 0) t) gd l k₁ c₁ p₁ fs₁).genState).gens.size = s₁.gens.size := setGen_size _ _ _
        have hsz'' : g + 1 ≤ (s₁.setGen g (End.susp (Value.int (sl size code 0) t) gd l k₁ c₁ p₁ fs₁).genState).gens.size := hsz'
        omega
      refine turn hN0 hit I5 hP ⟨hit, j5, hst, fun b hb' => ?_, k₁, l, c₁, p₁, fs₁, _, setGen_at hgs1, hcl, hsl⟩ fun f s7 q => ?_
      · have yy : @LE.le Nat _ s1.heap.objs.size b := by
          have h1 : @LE.le Nat _ s1.heap.objs.size env.locals := m.young
          have h2 : @LT.lt Nat _ env.locals a := m.La
          have h3 : @LE.le Nat _ (a + 1) it := hit
          rcases List.mem_cons.mp hb' with z | z
          · have z : @Eq Nat b a := z
            omega
          · rcases List.mem_cons.mp z with z | z
            · have z : @Eq Nat b env.locals := z
              omega
            · have z : @Eq Nat b it := List.mem_singleton.mp z
              omega
        exact I1.hok.fresh yy
      · have := fin hN0 q
        cases f <;> exact this
  | @amid _ it _ _ _ hpos hA =>
    obtain ⟨hlow, hgen, hst, hnT, ⟨k₁, l₁, c₁, p₁, fs₁, cl₁, hgs, hcl, hsl⟩⟩ := hA
    have hgl3 : g < s3.gens.size := (Array.getElem?_eq_some_iff.mp hgs).1
    have fL : FpOk X pins H3 env.locals := yg it hlow _ (by simp) H3 (hnT _ (by simp))
    have fI : FpOk X pins H3 it := yg it hlow _ (by simp) H3 (hnT _ (by simp))
    have haL : a ≠ env.locals := Nat.ne_of_gt m.La
    have haI : a ≠ it := Nat.ne_of_lt (Nat.lt_of_lt_of_le (Nat.lt_succ_self a) hlow)
    have I3' : Inv X pins σ3 H3 (s3.setGen g .running) := Inv.withG I3 (allBare_setGen I3.bare rfl)
    refine wpAny_gsz (n := g + 1) hgl3 (next_later (n := many.toNat - i) hh I3.nolimit hr.depth hgen hgs (hsl (s3.setGen g .running) fun _ _ _ e => e) (fun r s₁ hR => ?_) fun v gd l k₂ c₂ p₂ fs₂ s₁ hq hY => ?_)
    · obtain ⟨rfl, hn0, hj⟩ := hR
      unfold Jr at hj
      rw [if_neg (by omega)] at hj
      refine ⟨rfl, fun h' hk' _ => ?_⟩
      have I4 : Inv X pins σ3 H3 s₁ := inv_mv I3' hj fL fI
      have I5 : Inv X pins σ3 H3 { s₁.setGen g .finished with heap := h' } := Inv.withG (I4.kept (t' := s₁.toks) hk') (allBare_setGen I4.bare rfl)
      refine wpAny_execs_nil ?_
      have e : i = many.toNat := by omega
      rw [← e] at hdone
      exact ⟨σ3, H3, I5, hdone σ3 H3 hP⟩
    · obtain ⟨i', t, hi', rfl, hj, hy, hkap⟩ := hY
      intro hsz'
      obtain ⟨m', hm'⟩ : ∃ m', many.toNat - i = m' + 1 := by
        cases hz : many.toNat - i with
        | succ m' => exact ⟨m', rfl⟩
        | zero =>
          have := hkap s₁ fun _ _ _ e => e
          rw [hz] at this
          exact False.elim this
      have ei : i' = i := by omega
      subst ei
      have hlt : i' < many.toNat := by omega
      unfold Jr at hj
      rw [if_neg (by omega)] at hj
      have I4 : Inv X pins σ3 H3 s₁ := inv_mv I3' hj fL fI
      have hcl2 : (gd || fs₂.any Frame.guarded) = false := by
        have : (!(gd || fs₂.any Frame.guarded)) = true := hq
        simpa using this
      have hb' : (End.susp (Value.int (sl size code i') t) gd l k₂ c₂ p₂ fs₂).genState.bare = true := End.bare_of_quiet hq
      have I5 : Inv X pins σ3 H3 (s₁.setGen g (End.susp (Value.int (sl size code i') t) gd l k₂ c₂ p₂ fs₂).genState) := Inv.withG I4 (allBare_setGen I4.bare hb')
      have hgs1 : g < s₁.gens.size := by
        have q : (s₁.setGen g (End.susp (Value.int (sl size code i') t) gd l k₂ c₂ p₂ fs₂).genState).gens.size = s₁.gens.size := setGen_size _ _ _
        have hsz'' : g + 1 ≤ (s₁.setGen g (End.susp (Value.int (sl size code i') t) gd l k₂ c₂ p₂ fs₂).genState).gens.size := hsz'
        omega
      have hgen1 : s₁.heap.IsGen a g := by
        obtain ⟨h', tk, rfl, k'⟩ := hj
        obtain ⟨o, n1, n2, ho, z⟩ := hgen
        exact ⟨o, n1, n2, k' _ o haL haI ho, z⟩
      refine turn hlt hlow I5 hP ⟨hlow, hgen1, hy, hnT, k₂, l, c₂, p₂, fs₂, _, setGen_at hgs1, hcl2, fun s'' z => ?_⟩ fun f s7 q => ?_
      · have := hkap s'' z
        rw [hm'] at this
        rw [show many.toNat - (i' + 1) = m' by omega]
        exact this
      · have := fin hlt q
        cases f <;> exact this
end
end Pth
set_option Elab.async false
set_option linter.all false
set_option maxRecDepth 100000
set_option maxHeartbeats 1000000
/-! Pl: list(path(..)) -/
namespace Pth
open PySem PySem.Spec PyProof.Rows L2 GenW
section
variable {X : Cx} {pins : List (Addr × Obj)} {σ : L2.St} {H : Hp} {s : Shared}
/-- an object of ours is tracked from now on -/
theorem inv_track {S : Addr} {o : HO} (I : Inv X pins σ H s) (f : FpOk X pins H S) (hs : ∃ u, s.heap.get? S = some u) (new : ObjOk X.prog X.w (upd H S o) s.heap S o) : Inv X pins σ (upd H S o) s := by
  obtain ⟨a0, a1, a2, a3, a4, a5⟩ := f
  have ne : ∀ b, b ∉ [S] → b ≠ S := fun b hb z => hb (by rw [z]; simp)
  have nt : ∀ b u, H b = some u → b ≠ S := fun b u e => ne_of_none e a0
  obtain ⟨hp, g, d, t, os⟩ := s
  refine I.step (g' := g) (d' := d) (t' := t) (h' := hp) (ch := [S]) (fun b hb => ?_) (fun b o _ _ _ e _ => e) (fun b o _ _ _ e _ => ⟨o.slots, e⟩) (fun b _ hc _ n => by rw [upd_ne (ne b hc)]; exact n)
    (fun b o _ e => ⟨o, e⟩) (fun b _ e => by rw [upd_ne (nt b _ e)]; exact e) (fun b _ _ e => by rw [upd_ne (nt b _ e)]; exact e) (fun b ps e => ⟨#[], by rw [upd_ne (nt b _ e), e]; simp⟩) (fun m hm => hm) (fun b u e => ?_) I.bare
  · rw [List.mem_singleton.mp hb]; exact ⟨a3, a1, a4, a5⟩
  · by_cases hb : b = S
    · rw [hb, upd_same] at e
      cases e
      rw [hb]
      exact new
    · rw [upd_ne hb] at e
      exact (I.hok b u e).stay (fun _ _ _ q => q) (fun c q => by rw [upd_ne (nt c _ q)]; exact q) fun c xs q => by rw [upd_ne (nt c _ q)]; exact q
/-- the slots, a list -/
def slots (size code many : Int) : List V := (List.range many.toNat).map fun i => V.int (sl size code i)
def tListP (ta : TA) : TE := fun σ H Q => ta σ H fun vs H1 => ∃ code size many : Int, vs = [.int code, .int size, .int many] ∧ POk code size many ∧ many.toNat ≤ sizeLine ∧ ∀ p, H1 p = none → Q (.ref p) (upd H1 p (.lst (slots size code many)))
/-- the list stands at S: i slots are in it -/
def InList (S : Addr) (size code : Int) (i : Nat) (s : Shared) : Prop := ∃ (acc : Array Value) (c : Nat), Vals ((List.range i).map fun i => V.int (sl size code i)) acc.toList ∧ s.heap.get? S = some (lstObj acc c)
theorem vals_snoc {size code : Int} {i : Nat} {acc : Array Value} {t : Tok} (h : Vals ((List.range i).map fun i => V.int (sl size code i)) acc.toList) : Vals ((List.range (i + 1)).map fun i => V.int (sl size code i)) (acc.push (.int (sl size code i) t)).toList := by
  rw [List.range_succ, List.map_append, Array.toList_push]
  exact h.append (.cons ⟨t, rfl⟩ .nil)
/-- the loop that fills the list, i slots being in it -/
theorem drainP {A : Around} {env : Env} {a g : Nat} {size code many : Int} {S it : Addr} {R : Result → Shared → Prop} {res : Value} (hh : A.handled = none) (hd : A.depth < recursionLimit) (hle : many.toNat ≤ sizeLine) (hL : env.locals ≠ S) (hI : it ≠ S) (haS : a ≠ S) (haL : a ≠ env.locals) (haI : a ≠ it) (hGS : mainGlobals ≠ S)
    (fS : FpOk X pins H S) (fL : FpOk X pins H env.locals) (fI : FpOk X pins H it)
    (hend : ∀ s', Inv X pins σ H s' → InList S size code many.toNat s' → R (.ok (.ret res)) s') :
    ∀ (r i : Nat) (s : Shared), 0 < i → i + r = many.toNat → Inv X pins σ H s → InList S size code i s → Asleep X A.in1.in1 env a g many.toNat size code 0 i it H s →
      codeAny (model X.prog X.w) A (.builtin "list.extend.loop" ⟨[.ref S, .ref a, res], []⟩) R s := by
  intro r
  induction r with
  | zero =>
    intro i s hpos hir I hin hA
    obtain ⟨hlow, hgen, hst, hnT, ⟨k₁, l₁, c₁, p₁, fs₁, cl₁, hgs, hcl, hsl⟩⟩ := hA
    have I' : Inv X pins σ H (s.setGen g .running) := Inv.withG I (allBare_setGen I.bare rfl)
    refine codeAny_builtin F.entry_extend_loop ?_
    rw [Around.under_plainId F.plain_extend_loop _]
    show wpAny _ A.in1 (pyNext (.ref a) >>= _) _ _ s
    refine wpAny_bind (next_later (A := A.in1) (n := many.toNat - i) hh I.nolimit hd hgen hgs (hsl (s.setGen g .running) fun _ _ _ e => e) (fun r s₁ hR => ?_) fun v gd l k₂ c₂ p₂ fs₂ s₁ hq hY => ?_)
    · obtain ⟨rfl, hn0, hj⟩ := hR
      unfold Jr at hj
      rw [if_neg (by omega)] at hj
      refine ⟨rfl, fun h' hk' => ?_⟩
      have I4 : Inv X pins σ H s₁ := inv_mv I' hj fL fI
      have I5 : Inv X pins σ H { s₁.setGen g .finished with heap := h' } := Inv.withG (I4.kept (t' := s₁.toks) hk') (allBare_setGen I4.bare rfl)
      refine wpAny_pure (hend _ I5 ?_)
      obtain ⟨acc, c, hv, hS⟩ := hin
      obtain ⟨h2, tk, rfl, k2⟩ := hj
      refine ⟨acc, c, ?_, hk' _ _ (k2 _ _ (Ne.symm hL) (Ne.symm hI) hS)⟩
      have e : many.toNat = i := by omega
      rw [e]; exact hv
    · obtain ⟨i', t, hi', rfl, hj, hy, hkap⟩ := hY
      have := hkap s₁ fun _ _ _ e => e
      rw [show many.toNat - i = 0 by omega] at this
      exact False.elim this
  | succ r ih =>
    intro i s hpos hir I hin hA
    obtain ⟨hlow, hgen, hst, hnT, ⟨k₁, l₁, c₁, p₁, fs₁, cl₁, hgs, hcl, hsl⟩⟩ := hA
    have hgl : g < s.gens.size := (Array.getElem?_eq_some_iff.mp hgs).1
    have I' : Inv X pins σ H (s.setGen g .running) := Inv.withG I (allBare_setGen I.bare rfl)
    refine codeAny_builtin F.entry_extend_loop ?_
    rw [Around.under_plainId F.plain_extend_loop _]
    show wpAny _ A.in1 (pyNext (.ref a) >>= _) _ _ s
    refine wpAny_bind (wpAny_gsz (n := g + 1) hgl (next_later (A := A.in1) (n := many.toNat - i) hh I.nolimit hd hgen hgs (hsl (s.setGen g .running) fun _ _ _ e => e) (fun r s₁ hR => ?_) fun v gd l k₂ c₂ p₂ fs₂ s₁ hq hY => ?_))
    · obtain ⟨rfl, hn0, hj⟩ := hR
      omega
    · obtain ⟨i', t, hi', rfl, hj, hy, hkap⟩ := hY
      intro hsz'
      have ei : i' = i := by omega
      subst ei
      unfold Jr at hj
      rw [if_neg (by omega)] at hj
      have I4 : Inv X pins σ H s₁ := inv_mv I' hj fL fI
      have hcl2 : (gd || fs₂.any Frame.guarded) = false := by
        have : (!(gd || fs₂.any Frame.guarded)) = true := hq
        simpa using this
      have hb' : (End.susp (Value.int (sl size code i') t) gd l k₂ c₂ p₂ fs₂).genState.bare = true := End.bare_of_quiet hq
      have I5 : Inv X pins σ H (s₁.setGen g (End.susp (Value.int (sl size code i') t) gd l k₂ c₂ p₂ fs₂).genState) := Inv.withG I4 (allBare_setGen I4.bare hb')
      have hgs1 : g < s₁.gens.size := by
        have q : (s₁.setGen g (End.susp (Value.int (sl size code i') t) gd l k₂ c₂ p₂ fs₂).genState).gens.size = s₁.gens.size := setGen_size _ _ _
        have hsz'' : g + 1 ≤ (s₁.setGen g (End.susp (Value.int (sl size code i') t) gd l k₂ c₂ p₂ fs₂).genState).gens.size := hsz'
        omega
      obtain ⟨h2, tk, rfl, k2⟩ := hj
      obtain ⟨acc, c, hv, hS⟩ := hin
      have hS1 : h2.get? S = some (lstObj acc c) := k2 _ _ (Ne.symm hL) (Ne.symm hI) hS
      have hal : acc.size = i' := by
        have := hv.length
        simpa using this.symm
      show wpAny _ A.in1 (updateSeq S (·.push (.int (sl size code i') t)) >>= _) _ _ _
      refine wpAny_bind ?_
      refine wpAny_updateSeq hS1 rfl (wpAny_pure ⟨plainId_quiet F.plain_extend_loop _, ?_⟩) (by omega) (by show (acc.push _).size ≤ sizeLine + 1; rw [Array.size_push]; omega)
      have keep3 : ∀ b o, b ≠ S → h2.get? b = some o → (h2.update S (Obj.mapSeq (·.push (.int (sl size code i') t)))).get? b = some o := fun b o hbS e => (Heap.get?_update_other _ _ (Ne.symm hbS)).trans e
      obtain ⟨s0, s1', s2, s3, s4, s5⟩ := fS
      refine ih (i' + 1) _ (by omega) (by omega) (I5.turned (it := S) (t' := tk) keep3 s0 s1' s3 s4 s5) ⟨_, _, vals_snoc hv, Heap.get?_update_self _ hS1 rfl⟩ ⟨Nat.zero_le _, ?_, ?_, hnT, k₂, l, c₂, p₂, fs₂, _, setGen_at hgs1, hcl2, fun s'' z => ?_⟩
      · obtain ⟨o, n1, n2, ho, z⟩ := hgen
        exact ⟨o, n1, n2, keep3 _ o haS (k2 _ o haL haI ho), z⟩
      · refine hy.keeps (s' := { heap := h2.update S (Obj.mapSeq (·.push (.int (sl size code i') t))), gens := s.gens, drawn := s.drawn, toks := tk, os := s.os }) fun b o hb e => ?_
        refine keep3 b o ?_ e
        rcases hb with e | e | e <;> rw [e] <;> first | exact hL | exact hI | exact hGS
      · have := hkap s'' fun b o hb e => z b o hb ?_
        · rw [show many.toNat - i' = r + 1 by omega] at this
          rw [show many.toNat - (i' + 1) = r by omega]
          exact this
        · refine keep3 b o ?_ e
          rcases hb with e | e | e <;> rw [e] <;> first | exact hL | exact hI | exact hGS

theorem drain0 {A : Around} {env : Env} {k a g : Nat} {c : Code} {size code many : Int} {S : Addr} {R : Result → Shared → Prop} {res : Value} {H1 : Hp} {s1 s2 : Shared} {cc : Nat} (hh : A.handled = none) (hd : A.depth < recursionLimit) (hle : many.toNat ≤ sizeLine)
    (I1 : Inv X pins σ H1 s1) (m : PMade X.prog X.w k X.stack H1 s1 many.toNat size code a g c env s2) (hr : Room k A.in1.in1) (hfr : A.in1.in1.frames = some X.stack) (hk : ∀ b o, s2.heap.get? b = some o → s.heap.get? b = some o) (hg : s.gens = s2.gens) (ho : s.os = s2.os)
    (hS : s.heap.get? S = some (lstObj #[] cc)) (haS : a < S)
    (hend : ∀ s', Inv X pins σ H1 s' → InList S size code many.toNat s' → R (.ok (.ret res)) s') :
    codeAny (model X.prog X.w) A (.builtin "list.extend.loop" ⟨[.ref S, .ref a, res], []⟩) R s := by
  have y1 : @LE.le Nat _ s1.heap.objs.size env.locals := m.young
  have y2 : @LT.lt Nat _ env.locals a := m.La
  have y3 : @LT.lt Nat _ a S := haS
  have yng : ∀ b : Addr, @LE.le Nat _ env.locals b → ∀ {H' : Hp}, H' b = none → FpOk X pins H' b := fun b hb H' hn => I1.fpOk (show @LE.le Nat _ s1.heap.objs.size b by omega) hn
  have ynn : ∀ b : Addr, @LE.le Nat _ env.locals b → H1 b = none := fun b hb => I1.hok.fresh (show @LE.le Nat _ s1.heap.objs.size b by omega)
  have hmG : @LT.lt Nat _ mainGlobals S := by
    obtain ⟨o, es, ep, ho, _⟩ := I1.mod.glob
    have := Heap.lt_size (I1.bk _ _ ho)
    have : @LT.lt Nat _ mainGlobals s1.heap.objs.size := this
    omega
  have hL : env.locals ≠ S := Nat.ne_of_lt (show @LT.lt Nat _ env.locals S by omega)
  have hgen : s.heap.IsGen a g := m.gen.keeps hk
  have hlim : s.heap.NoLimit := m.lim.keeps hk
  have hgs : s.gens[g]? = some (.fresh c) := by rw [hg]; exact m.fresh
  have hgl : g < s.gens.size := (Array.getElem?_eq_some_iff.mp hgs).1
  have hbare : AllBare s.gens := by rw [hg]; exact m.bare
  have fS : FpOk X pins H1 S := yng S (by omega) (ynn S (by omega))
  have fL : FpOk X pins H1 env.locals := yng _ (Nat.le_refl _) (ynn _ (Nat.le_refl _))
  refine codeAny_builtin F.entry_extend_loop ?_
  rw [Around.under_plainId F.plain_extend_loop _]
  show wpAny _ A.in1 (pyNext (.ref a) >>= _) _ _ s
  refine wpAny_bind (wpAny_gsz (n := g + 1) hgl (next_first (A := A.in1) hh hlim hd hgen hgs (m.wake A.in1.in1 (s.setGen g .running) [(S, lstObj #[] cc)] hr hfr (fun b o e => hk b o e) (ho.trans m.os) (allBare_setGen hbare rfl) (fun p hp => by
    rw [List.mem_singleton.mp hp]
    exact ⟨hS, haS, fun v z => by cases z⟩)) fun e s₁ he => ?_))
  cases e with
  | ret r =>
    obtain ⟨rfl, hN0, ⟨j1, j2, j3, j4, j5, j6, j7⟩⟩ := he
    refine .inl ⟨rfl, fun h' hk' _ => ?_⟩
    have I4 : Inv X pins σ H1 s₁ := I1.call' (ch := []) j1 j3 j4 j2 fun b z => by simp at z
    have I5 : Inv X pins σ H1 { s₁.setGen g .finished with heap := h' } := Inv.withG (I4.kept (t' := s₁.toks) hk') (allBare_setGen j2 rfl)
    refine wpAny_pure (hend _ I5 ⟨#[], cc, ?_, hk' _ _ (j7 (S, lstObj #[] cc) (List.mem_singleton.mpr rfl))⟩)
    rw [hN0]
    exact .nil
  | susp v gd l k₁ c₁ p₁ fs₁ =>
    obtain ⟨hq, hN0, ⟨t, rfl⟩, ⟨j1, j2, j3, j4, j5, j6, j7⟩, it, hit', hst, hsl⟩ := he
    refine .inr ⟨_, gd, l, k₁, c₁, p₁, fs₁, rfl, hq, fun hsz' => ?_⟩
    have hai : @LT.lt Nat _ a it := hit' a List.mem_cons_self
    have hSi : @LT.lt Nat _ S it := hit' S (by simp)
    have I4 : Inv X pins σ H1 s₁ := I1.call' (ch := []) j1 j3 j4 j2 fun b z => by simp at z
    have hcl2 : (gd || fs₁.any Frame.guarded) = false := by
      have : (!(gd || fs₁.any Frame.guarded)) = true := hq
      simpa using this
    have hb' : (End.susp (Value.int (sl size code 0) t) gd l k₁ c₁ p₁ fs₁).genState.bare = true := End.bare_of_quiet hq
    have I5 : Inv X pins σ H1 (s₁.setGen g (End.susp (Value.int (sl size code 0) t) gd l k₁ c₁ p₁ fs₁).genState) := Inv.withG I4 (allBare_setGen j2 hb')
    have hgs1 : g < s₁.gens.size := by
      have q : (s₁.setGen g (End.susp (Value.int (sl size code 0) t) gd l k₁ c₁ p₁ fs₁).genState).gens.size = s₁.gens.size := setGen_size _ _ _
      have hsz'' : g + 1 ≤ (s₁.setGen g (End.susp (Value.int (sl size code 0) t) gd l k₁ c₁ p₁ fs₁).genState).gens.size := hsz'
      omega
    have fI : FpOk X pins H1 it := yng it (by omega) (ynn it (by omega))
    have hS1 : s₁.heap.get? S = some (lstObj #[] cc) := j7 (S, lstObj #[] cc) (List.mem_singleton.mpr rfl)
    have haS' : a ≠ S := Nat.ne_of_lt y3
    have haL : a ≠ env.locals := Nat.ne_of_gt y2
    have haI : a ≠ it := Nat.ne_of_lt hai
    have hI : it ≠ S := Nat.ne_of_gt hSi
    have hGS : mainGlobals ≠ S := Nat.ne_of_lt hmG
    obtain ⟨hp1, g1, d1, t1, o1⟩ := s₁
    have hS1 : hp1.get? S = some (lstObj #[] cc) := hS1
    show wpAny _ A.in1 (updateSeq S (·.push (.int (sl size code 0) t)) >>= _) _ _ _
    refine wpAny_bind ?_
    refine wpAny_updateSeq hS1 rfl (wpAny_pure ⟨plainId_quiet F.plain_extend_loop _, ?_⟩) (by show (0 : Nat) ≤ sizeLine; exact Nat.zero_le _) (by show (1 : Nat) ≤ sizeLine + 1; omega)
    have keep3 : ∀ b o, b ≠ S → hp1.get? b = some o → (hp1.update S (Obj.mapSeq (·.push (.int (sl size code 0) t)))).get? b = some o := fun b o hbS e => (Heap.get?_update_other _ _ (Ne.symm hbS)).trans e
    obtain ⟨s0', s1', s2', s3', s4', s5'⟩ := id fS
    refine drainP (A := A) hh hd hle hL hI haS' haL haI hGS fS fL fI hend (many.toNat - 1) 1 _ (by omega) (by omega) (I5.turned (it := S) (t' := t1) keep3 s0' s1' s3' s4' s5') ⟨_, _, vals_snoc (i := 0) (acc := #[]) .nil, Heap.get?_update_self _ hS1 rfl⟩ ⟨Nat.zero_le _, ?_, ?_, fun b hb => ?_, k₁, l, c₁, p₁, fs₁, _, setGen_at hgs1, hcl2, fun s'' z => ?_⟩
    · obtain ⟨o, n1, n2, ho, z⟩ := j5
      exact ⟨o, n1, n2, keep3 _ o haS' ho, z⟩
    · refine hst.keeps (s' := { heap := hp1.update S (Obj.mapSeq (·.push (.int (sl size code 0) t))), gens := g1, drawn := d1, toks := t1, os := o1 }) fun b o hb e => ?_
      refine keep3 b o ?_ e
      rcases hb with e | e | e <;> rw [e] <;> first | exact hL | exact hI | exact hGS
    · refine ynn b ?_
      rcases List.mem_cons.mp hb with z | z
      · have z : @Eq Nat b a := z
        omega
      · rcases List.mem_cons.mp z with z | z
        · have z : @Eq Nat b env.locals := z
          omega
        · have z : @Eq Nat b it := List.mem_singleton.mp z
          omega
    · refine hsl s'' fun b o hb e => z b o hb (keep3 b o ?_ e)
      rcases hb with e | e | e <;> rw [e] <;> first | exact hL | exact hI | exact hGS

theorem inList_lst {P : Program} {w : World} {H' : Hp} {S : Addr} {size code many : Int} {s : Shared} (h : InList S size code many.toNat s) (hle : many.toNat ≤ sizeLine) : ObjOk P w H' s.heap S (.lst (slots size code many)) := by
  obtain ⟨acc, c, hv, hS⟩ := h
  refine ⟨?_, acc.toList, c, hv, hS⟩
  unfold slots
  rw [List.length_map, List.length_range]
  exact hle
theorem call_listP {A : Around} {env : Env} {k a g : Nat} {c : Code} {size code many : Int} {H1 : Hp} {s1 s2 : Shared} {Q : VK} {E : Value → Shared → Prop} (hA : A = X.A) (hle : many.toNat ≤ sizeLine) (hr : Room (k + 3) A) (I1 : Inv X pins σ H1 s1) (m : PMade X.prog X.w k X.stack H1 s1 many.toNat size code a g c env s2)
    (hQ : ∀ p, H1 p = none → Q (.ref p) (upd H1 p (.lst (slots size code many)))) :
    wpAny (model X.prog X.w) A (call (.type "list") [.ref a]) (EP X pins σ Q) E s2 := by
  have y1 : @LE.le Nat _ s1.heap.objs.size env.locals := m.young
  have y2 : @LT.lt Nat _ env.locals a := m.La
  have y3 : @Eq Nat (a + 1) s2.heap.objs.size := m.aE
  have hSa : s2.heap.objs.size ≠ a := Nat.ne_of_gt (show @LT.lt Nat _ a s2.heap.objs.size by omega)
  refine callType_codes (Q₁ := fun obj s₁ => obj = .ref s2.heap.objs.size ∧ s₁ = { s2 with heap := s2.heap.push { cls := .type "list", data := .seq #[] } }) F.called_list (F.typeCall_list_1 _) F.entry_list_init
    (code_list_new _ ⟨rfl, rfl⟩) fun obj s₁ h₁ => ?_
  obtain ⟨rfl, rfl⟩ := h₁
  have hS : (s2.heap.push { cls := .type "list", data := .seq #[] }).get? s2.heap.objs.size = some { cls := .type "list", data := .seq #[] } := Heap.get?_push_size _ rfl
  refine ⟨⟨_, hS, rfl⟩, F.args_list_init_2 _ _, ?_⟩
  show wpAny _ A.in1.in1 (do let old ← Builtin.List.listItems (.ref s2.heap.objs.size); Builtin.List.listUpdate (.ref s2.heap.objs.size) (fun _ => #[]); letGo old.toList.reverse; Builtin.List.listExtendWith (.ref s2.heap.objs.size) (.ref a) .none) _ _ _
  refine wpAny_bind ?_
  unfold Builtin.List.listItems
  refine wpAny_bind (wpAny_seqItems hS rfl (wpAny_pure ?_))
  show wpAny _ A.in1.in1 (updateSeq s2.heap.objs.size (fun _ => #[]) >>= fun _ => letGo (#[] : Array Value).toList.reverse >>= fun _ => Builtin.List.listExtendWith (.ref s2.heap.objs.size) (.ref a) .none) _ _ _
  refine wpAny_bind (wpAny_updateSeq hS rfl ?_)
  have hS2 := Heap.get?_update_self (Obj.mapSeq (fun _ => (#[] : Array Value))) hS rfl
  refine wpAny_bind (wpAny_letGo ?_)
  unfold Builtin.List.listExtendWith
  have up : ∀ (h : Heap) (f : Obj → Obj), (∀ b o, s2.heap.get? b = some o → h.get? b = some o) → ∀ b o, s2.heap.get? b = some o → (h.update s2.heap.objs.size f).get? b = some o := fun h f q b o e =>
    (Heap.get?_update_other _ _ (Ne.symm (Nat.ne_of_lt (Heap.lt_size e)))).trans (q b o e)
  have k1 : ∀ b o, s2.heap.get? b = some o → (s2.heap.push { cls := .type "list", data := .seq #[] }).get? b = some o := fun b o e => Heap.get?_push_of_some _ e
  have k2 := up _ (Obj.mapSeq (fun _ => (#[] : Array Value))) k1
  have gty : ∀ {h : Heap}, (∀ b o, s2.heap.get? b = some o → h.get? b = some o) → h.IsGen a g := fun {h} q => m.gen.keeps q
  refine wpAny_bind (wpAny_typeOf (Heap.IsGen.typeIs (s := { s2 with heap := _ }) (gty k2)) ?_)
  have h1 : Builtin.List.listSameRef (.ref s2.heap.objs.size) (.ref a) = false := by simp [Builtin.List.listSameRef, hSa]
  have h2 : (Value.type "generator" == Value.type "list") = false := by decide
  have h3 : (Value.type "generator" == Value.type "tuple") = false := by decide
  simp only [h1, h2, h3, Bool.or_false, Bool.false_eq_true, if_false]
  refine wpAny_bind (wpAny_pyIter_gen (s := { s2 with heap := _ }) (gty k2) ?_)
  refine wpAny_bind (wpAny_holding ?_)
  unfold Builtin.List.listLengthHint
  refine wpAny_bind (wpAny_specialOf (Heap.IsGen.typeIs (s := { s2 with heap := _ }) (gty k2)) F.gen_no_len ?_)
  show wpAny _ A.in1.in1 (specialOf (Value.ref a) (Str.ofString "__length_hint__") >>= _) _ _ _
  refine wpAny_bind (wpAny_specialOf (Heap.IsGen.typeIs (s := { s2 with heap := _ }) (gty k2)) F.gen_no_hint ?_)
  refine wpAny_pure ?_
  show wpAny _ A.in1.in1 (rule "list.extend.makes-room" >>= fun _ => Builtin.List.listTouch (.ref s2.heap.objs.size) >>= fun _ =>
    again (.builtin "list.extend.loop" ⟨[.ref s2.heap.objs.size, .ref a, .none], []⟩)) _ _ _
  refine wpAny_bind (wpAny_rule ?_)
  refine wpAny_bind ?_
  show wpAny _ A.in1.in1 (updateSeq s2.heap.objs.size (·.push .none) >>= fun _ => updateSeq s2.heap.objs.size (·.pop)) _ _ _
  refine wpAny_bind (wpAny_updateSeq hS2 rfl ?_)
  have hS3 := Heap.get?_update_self (Obj.mapSeq (·.push Value.none)) hS2 rfl
  refine wpAny_updateSeq (hz := by seq_fits) hS3 rfl ?_
  have hS4 := Heap.get?_update_self (Obj.mapSeq (·.pop)) hS3 rfl
  have k4 := up _ (Obj.mapSeq (·.pop)) (up _ (Obj.mapSeq (·.push Value.none)) k2)
  refine wpAny_pure ⟨plainId_quiet F.plain_extend_loop _, ?_⟩
  refine drain0 (A := A.in1) hr.hd (by have := hr.dp; show A.depth < _; omega) hle I1 m ⟨hr.hd, ?_, ?_⟩ (by rw [hA]; exact I1.ok.frames) k4 rfl rfl hS4 (show @LT.lt Nat _ a s2.heap.objs.size by omega) fun s' I' hin => ⟨rfl, ?_⟩
  · have := hr.dp
    show A.depth + 3 * k + 5 < _
    omega
  · have := hr.un
    show A.units + 1 + 1 + 1 + 16 * k + 200 < _
    omega
  · have hn : H1 s2.heap.objs.size = none := I1.hok.fresh (show @LE.le Nat _ s1.heap.objs.size s2.heap.objs.size by omega)
    have fS : FpOk X pins H1 s2.heap.objs.size := I1.fpOk (show @LE.le Nat _ s1.heap.objs.size s2.heap.objs.size by omega) hn
    have hob : ∃ u, s'.heap.get? s2.heap.objs.size = some u := by
      obtain ⟨acc, c, _, h⟩ := hin
      exact ⟨_, h⟩
    exact ⟨.ref s2.heap.objs.size, _, inv_track I' fS hob (inList_lst hin hle), rfl, hQ _ hn⟩
/-- list(path(..)) -/
theorem pe_listP {f : Addr} {fd : FuncData} {k : Nat} {nmp nml : Str} {p p1 pos' pos : Pos} {e : Expr} {es : List Expr} {ta : TA}
    (F : PathDef X.prog X.w X.K X.mg X.base k f fd) (hr : Room (k + 3) X.A) (hg : Gl X nmp) (hm : X.mg nmp = some (.ref f)) (hk : PySem.W.keepIn X.K (.ref f) = true) (hb : Binds X.K fd pP []) (ha : PA X (e :: es) ta)
    (hgl : Gl X nml) (hmg : X.mg nml = none) (hv : bootBuiltins nml = some (.type "list")) (hnm : nml ≠ "__name__" := by decide) (hdl : (nml == ("__debug__" : Str)) = false := by decide)
    (hdb : (nmp == ("__debug__" : Str)) = false := by decide) (he : starEach (e :: es) X.env = (false, eval e X.env) :: starEach es X.env := by rfl) (hpl : (backTo pos' (starEach es X.env)).any (·.1) = false := by rfl)
    (he1 : starEach [.Call (.Name nmp p1) (e :: es) [] pos'] X.env = (false, eval (.Call (.Name nmp p1) (e :: es) [] pos') X.env) :: starEach [] X.env := by rfl) :
    PE X (.Call (.Name nml p) [.Call (.Name nmp p1) (e :: es) [] pos'] [] pos) (tListP ta) := by
  refine ⟨fun pins s σ H Q I h => ?_⟩
  refine wpAny_Call_Name_kw (ld_blt I hgl hmg hv ?_ hnm hdl)
  refine PyProof.Rows.callWith_type1 ?_ he1 rfl
  rw [he1]
  show wpAny _ _ (spliced ((false, eval (.Call (.Name nmp p1) (e :: es) [] pos') X.env) :: backTo pos (starEach [] X.env))) _ _ s
  refine Calls.spliced_cons ?_
  refine wpAny_Call_Name_kw (ld_glob I hg hm ?_ hdb)
  refine PySem.W.callWith_K (h₀ := X.base) I.ok.mod.kin hk (thn (ha.run pos' pins s σ H _ I h) fun us s1 ⟨vs, H1, I1, r1, q1⟩ => ⟨I1.kIn, ?_⟩) he hpl
  obtain ⟨code, size, many, rfl, ok, hle, hq⟩ := q1
  have hl2 : us.length = 3 := r1.length.symm
  have hbt : BindsTo s1 fd ⟨us, []⟩ (pP.zip us) := by
    have := hb s1 us I1.kIn (by rw [List.append_nil]; exact hl2)
    rw [List.append_nil] at this
    exact this
  refine wpAny_call (codeAny_mono (F ok (hr.mono (by omega)) I1.env0 hbt r1) fun r s2 hq' => ?_)
  cases r with
  | error e => exact False.elim hq'
  | ok fl =>
  cases fl with
  | next => exact False.elim hq'
  | brk => exact False.elim hq'
  | cont => exact False.elim hq'
  | ret u =>
  obtain ⟨a, g, c, env, rfl, m⟩ := hq'
  refine Calls.spliced_nil ?_
  exact call_listP rfl hle hr I1 m hq
end
end Pth
set_option Elab.async false
set_option linter.all false
set_option maxRecDepth 100000
set_option maxHeartbeats 1000000
/-! Xo: own exception classes whose __init__ stores one field, over any built-in base: made as a value, raised, kept, asked for their class, their field read -/
namespace Xo
open PySem PySem.Spec PyProof.Rows L2 Builtin Builtin.ObjectAttr
/-- what the written part says of the class at C -/
structure XC (K : PySem.W.Frag) (C : Addr) : Prop where
  base : ∃ (B newId initId : String) (bmB : List Value), ExcBaseFacts B newId initId bmB ∧ StoreFacts B bmB "object.__setattr__" "object" ∧ PySem.W.excInitIn K C bmB newId = true ∧ PySem.W.excOver K C bmB = true
  hd : PySem.W.hasDictIn K C = true
  sa : PySem.W.findIn K (.ref C) "__setattr__" = some (some (.builtin "object.__setattr__"))
  ga : PySem.W.findIn K (.ref C) "__getattribute__" = some (some (.builtin "BaseException.__getattribute__"))
  gg : PySem.W.findIn K (.ref C) "__getattr__" = some none
  exC : PySem.W.subIn K (.ref C) (.type "BaseException") = some true
  tyC : PySem.W.typeIn K (.ref C) = some (.type "type")
  kC : PySem.W.keepIn K (.ref C) = true
section
variable {X : Cx} {pins : List (Addr × Obj)} {σ : L2.St} {H : Hp} {s : Shared} {a C : Addr} {f : Str} {y : V} {u : Value} {E : Value → Shared → Prop} {A : Around}
/-- the first store into a fresh exception -/
theorem store1 {K : PySem.W.Frag} {prog : Program} {w : World} {name : Str} {tk : Tok} {v : Value} {x : Addr} {fv : Array Value} {R : Result → Shared → Prop} (T : XC K C) (X : K.In s.heap)
    (hx : s.heap.get? x = some { cls := .ref C, data := .fields fv }) (hno : PySem.W.findIn K (.ref C) name = some none)
    (hq : ∀ h' tk' dx, (∀ b o, b ≠ x → s.heap.get? b = some o → h'.get? b = some o) → s.heap.objs.size ≤ dx → dx ≠ x → h'.get? x = some { cls := .ref C, dict := some dx, data := .fields fv } →
      h'.Ns1 dx (fun y => if y = name then some v else none) → R (.ok (.ret .none)) { s with heap := h', toks := tk' }) :
    codeAny (model prog w) A (.call (.builtin "object.__setattr__") ⟨[.ref x, .str name tk, v], []⟩) R s := by
  obtain ⟨B, newId, initId, bmB, fb, sf, ii, ov⟩ := T.base
  obtain ⟨cd, hc, hdd⟩ := PySem.W.any_some T.hd
  have I : PySem.W.InstAt s.heap x { cls := .ref C, data := .fields fv } C none := ⟨hx, rfl, rfl, trivial⟩
  refine PySem.W.osa_openX (r := none) sf X I ov (show PySem.W.takerIn K C name = some none from NoAttr.taker hno) fun b => ?_
  have hcls : PySem.W.Looks (model prog w) s.heap (classData C) cd := PySem.W.looks_clsIn X hc
  have hxs : x ≠ s.heap.objs.size := Nat.ne_of_lt (Heap.lt_size hx)
  have hdd' : cd.hasDict = true := hdd
  obtain ⟨nm, bs, mro, ns, qn, hd, sn, sb, ab, col, del⟩ := cd
  dsimp only at hdd'
  subst hdd'
  obtain ⟨hp, g, d, t, os⟩ := s
  dsimp only
  unfold storeInOwnDict ownDictForStores
  repeat (first | with_reducible refine HandSPX.store_in_new ?_ ?_ | with_reducible refine wpAny_loadPart_at hx ?_ | with_reducible refine hcls.at ?_ | wp_step)
  · exact ⟨_, #[], _, (Heap.get?_update_ne _ _ _ _ (Ne.symm hxs)).trans (Heap.get?_push_at rfl rfl), rfl, fun e z => absurd z (by simp), fun _ => rfl⟩
  · intro h1 tk1 n1 sb1
    have hx1 : (hp.push { cls := .type "dict", data := .dict #[] }).get? x = some { cls := .ref C, data := .fields fv } := Heap.get?_push_of_some _ hx
    exact hq h1 tk1 hp.objs.size (fun b o hb z => (sb1.2 b (Nat.ne_of_lt (Heap.lt_size z))).trans ((Heap.get?_update_ne _ _ _ _ hb).trans (Heap.get?_push_of_some _ z))) (Nat.le_refl _) (Ne.symm hxs) ((sb1.2 x hxs).trans (Heap.get?_update_self _ hx1 rfl)) n1
theorem ost1 {Q : Unit → Shared → Prop} (T : XC X.K C) (I : Inv X pins σ H s) (e : H a = some (exo a C none)) (hno : PySem.W.findIn X.K (.ref C) f = some none) (ry : RelV y u)
    (h : ∀ dx s', H dx = none → dx ≠ a → Inv X pins σ (upd (upd H a (exo a C (some dx))) dx (exd dx [(f, y)])) s' → Q () s') : wpAny (model X.prog X.w) A (setAttr (.ref a) f u) Q E s := by
  obtain ⟨t1, ho⟩ := exo_at I.hok e
  obtain ⟨h0, g, d, t, os⟩ := s
  refine PySem.W.set_plain I.kIn (od := none) ⟨ho, rfl, rfl, trivial⟩ T.sa ?_
  refine store1 T I.kIn ho hno fun h1 tk1 dx k dn dne hx hn => ?_
  have hnd : H dx = none := I.hok.fresh dn
  have J := I.write (t' := tk1) (x := a) (e := a) (o := exo a C (some dx)) (by rw [e]; exact True.intro) (.inl rfl) k ⟨_, hx⟩ (exo_ok hx)
  have fp : FpOk X pins (upd H a (exo a C (some dx))) dx := I.fpOk dn (by rw [upd_ne dne]; exact hnd)
  obtain ⟨o, es, ep, hob, hr⟩ := id hn
  exact h dx _ hnd dne (Pth.inv_track J fp ⟨o, hob⟩ (exd_ok hn (relO_put (fs := []) ry fun _ => True.intro)))
end
/-- self.f = v in such an __init__ -/
def tOst1 (f : Str) (to te : TE) (K : PySem.W.Frag) : TS := fun D σ H => te σ H fun y H1 => to σ H1 fun x H2 => ∃ a C : Addr, x = .ref a ∧ XC K C ∧ PySem.W.findIn K (.ref C) f = some none ∧ H2 a = some (exo a C none) ∧
  ∀ dx, H2 dx = none → dx ≠ a → D.nx σ (upd (upd H2 a (exo a C (some dx))) dx (exd dx [(f, y)]))
theorem ps_ost1 {X : Cx} {o e : Expr} {to te : TE} {f : Str} {p' pos : Pos} (ho : PE X o to) (he : PE X e te) (hs : swapsWith e (some (.Attribute o f p')) pos.line X.env = pure false := by rfl) : PS X (.Assign [.Attribute o f p'] e pos) (tOst1 f to te X.K) := by
  refine ⟨fun pins s σ H D I h => ?_⟩
  refine plainObj_wpAny_Assign_Attribute (thn (he.run pins s σ H _ I h) fun v s1 ⟨y, H1, I1, r1, q1⟩ => thn (ho.run pins s1 σ H1 _ I1 q1) fun u s2 ⟨x, H2, I2, r2, a, C, ex, T, hno, ea, q⟩ => ?_) hs
  subst ex
  cases (show u = Value.ref a from r2)
  exact ost1 T I2 ea hno r1 fun dx s3 n ne J => ⟨σ, _, J, q dx n ne⟩
/-- the promise of such an __init__ -/
def spXI (K : PySem.W.Frag) (f : Str) : Sp := fun vs H Q _ => ∃ (a C : Addr) (v : V), vs = [.ref a, v] ∧ XC K C ∧ PySem.W.findIn K (.ref C) f = some none ∧ H a = some (exo a C none) ∧
  ∀ d, H d = none → d ≠ a → Q .non (upd (upd H a (exo a C (some d))) d (exd d [(f, v)]))
theorem ok_xinit {P : Program} {w : World} {K : PySem.W.Frag} {mg : Str → Option Value} {base : Heap} {qual fld : Str} {st : Stmt} {fa : Addr} {fd : FuncData} {p1 p2 p3 p4 : Pos} (F : Fun K "__init__" qual st fa fd) (S : FnScope ["self", fld] ["self", fld] (defScope st))
    (hb : defBody st = [.Assign [.Attribute (.Name "self" p1) fld p2] (.Name fld p3) p4]) (hd1 : (fld == ("__debug__" : Str)) = false) (hd2 : (fld == ("__classdict__" : Str)) = false) : FnOk P w K mg base CX0 1 fa fd ["self", fld] (spXI K fld) := by
  refine F.ok S (fun vs H Q E h => ?_) (fun cdv A outer s H vs Q E hr h => ?_)
  · obtain ⟨a, C, v, rfl, _⟩ := h
    rfl
  · obtain ⟨a, C, v, rfl, T, hno, ea, k⟩ := h
    rw [hb]
    refine ⟨_, pss_one (ps_ost1 (pe_var (i := 0) rfl ((S.par "self" (by simp)).elim (fun z => .inl z) (fun z => .inr (.inl z)))) (pe_var (i := 1) rfl ((S.par fld (by simp)).elim (fun z => .inl z) (fun z => .inr (.inl z))) hd1 hd2)), ?_⟩
    exact ⟨v, rfl, .ref a, rfl, a, C, rfl, T, hno, ea, fun d hd hne => k d hd hne⟩
/-- the class's own def __init__, promised -/
structure XI (X : Cx) (C : Addr) (fld : Str) : Prop where
  T : XC X.K C
  no : PySem.W.findIn X.K (.ref C) fld = some none
  ini : ∃ (fI : Addr) (fd : FuncData), PySem.W.findIn X.K (.ref C) "__init__" = some (some (.ref fI)) ∧ PySem.W.typeIn X.K (.ref fI) = some (.type "function") ∧ Binds X.K fd ["self", fld] [] ∧ FnOk X.prog X.w X.K X.mg X.base CX0 1 fI fd ["self", fld] (spXI X.K fld)
section
variable {X : Cx} {pins : List (Addr × Obj)} {σ : L2.St} {H : Hp} {s : Shared} {C : Addr} {fld x : Str} {v : V} {u : Value} {e : Expr} {te : TE} {p pos : Pos}
theorem upd2 {H : Hp} {a : Addr} {o o' : HO} : upd (upd H a o) a o' = upd H a o' := by
  funext b
  unfold upd
  split <;> rfl
/-- the two objects behind the call's start -/
abbrev xHeap (h : Heap) (us : List Value) (C : Addr) : Heap := (h.push (PySem.W.kdv_tup us)).push (HandSPX.excO C h.objs.size)
theorem inv_start_x (I : Inv X pins σ H s) (us : List Value) : H (s.heap.objs.size + 1) = none ∧ (∀ b o, s.heap.get? b = some o → (xHeap s.heap us C).get? b = some o) ∧
    Inv X pins σ (upd H (s.heap.objs.size + 1) (exo (s.heap.objs.size + 1) C none)) { s with heap := xHeap s.heap us C } := by
  have hsz : s.heap.objs.size ≤ s.heap.objs.size + 1 := Nat.le_succ _
  have kk : ∀ b o, s.heap.get? b = some o → (xHeap s.heap us C).get? b = some o := fun b o q => Heap.get?_push_of_some _ (Heap.get?_push_of_some _ q)
  have hg : (xHeap s.heap us C).get? (s.heap.objs.size + 1) = some (HandSPX.excO C s.heap.objs.size) := by heap_get
  exact ⟨I.hok.fresh hsz, kk, I.laid (t' := s.toks) (o := exo (s.heap.objs.size + 1) C none) kk hsz (exo_ok hg)⟩
/-- C(v), the call -/
theorem run_x {R : Result → Shared → Prop} (T : XI X C fld) (hr : Room 2 X.A) (I : Inv X pins σ H s) (rv : RelV v u) {Q1 : VK}
    (hq1 : ∀ d, H d = none → d ≠ s.heap.objs.size + 1 → Q1 .non (upd (upd H (s.heap.objs.size + 1) (exo (s.heap.objs.size + 1) C (some d))) d (exd d [(fld, v)])))
    (hR : ∀ s', CE X.stack X.prog X.w (upd H (s.heap.objs.size + 1) (exo (s.heap.objs.size + 1) C none)) { s with heap := xHeap s.heap [u] C } Q1 .none s' → R (.ok (.ret (.ref (s.heap.objs.size + 1)))) s')
    (hQn : ∀ v' H', Q1 v' H' → v' = .non) : codeAny (model X.prog X.w) X.A (.call (.ref C) ⟨[u], []⟩) R s := by
  obtain ⟨hn, kk, I2⟩ := inv_start_x (C := C) I [u]
  obtain ⟨fI, fd, iC, tI, hb, F1⟩ := T.ini
  obtain ⟨B, newId, initId, bmB, fb, sf, ii, ov⟩ := T.T.base
  obtain ⟨nm, N, qn, bs, bm, hdct, sn, sub, ab, col, dd, k0, k1, k2, k3, k5, hC, hT⟩ := PySem.W.excInit_of I.kIn ii
  have hsp : spXI X.K fld [V.ref (s.heap.objs.size + 1), v] (upd H (s.heap.objs.size + 1) (exo (s.heap.objs.size + 1) C none)) Q1 E0 := by
    refine ⟨_, C, v, rfl, T.T, T.no, upd_same, fun d hd hne => ?_⟩
    rw [upd2]
    exact hq1 d (by rwa [upd_ne hne] at hd) hne
  obtain ⟨h0, g, dr, tk, os⟩ := s
  refine HandSPX.call_own fb hT hC (PySem.W.looks_findIn I.kIn iC) (fun self => PySem.W.bind_fn I.kIn self tI) (show 1 ≤ sizeLine by decide)
    (codeAny_mono (F1.run _ X.stack _ _ ⟨[Value.ref (h0.objs.size + 1), u], []⟩ [Value.ref (h0.objs.size + 1), u] [V.ref (h0.objs.size + 1), v] Q1 E0 (hr.make C [u] []) (I2.env0.make C [u] []) (hb _ [Value.ref (h0.objs.size + 1), u] I2.kIn rfl) (.cons (show L2.RelV (V.ref (h0.objs.size + 1)) (Value.ref (h0.objs.size + 1)) from rfl) (.cons rv .nil)) hsp) fun r s' hq' => ?_)
  cases r with
  | error er => exact (show False from hq').elim
  | ok fl =>
    cases fl with
    | ret u' =>
      have hq2 := hq'
      obtain ⟨v', H', os', bare', un', hok', rv', q'⟩ := hq'
      have ev := hQn _ _ q'
      subst ev
      cases rv'
      exact ⟨rfl, hR s' hq2⟩
    | next => exact False.elim hq'
    | brk => exact False.elim hq'
    | cont => exact False.elim hq'
/-- C(e), as a value: a new exception at a, its dict at d -/
def tXmk (C : Addr) (fld : Str) (ta : TA) : TE := fun σ H Q => ta σ H fun vs H1 => ∃ v, vs = [v] ∧ ∀ a d, H1 a = none → H1 d = none → d ≠ a → Q (.ref a) (upd (upd H1 a (exo a C (some d))) d (exd d [(fld, v)]))
theorem pe_xmk {es : List Expr} {ta : TA} (T : XI X C fld) (hr : Room 2 X.A) (hg : Gl X x) (hm : X.mg x = some (.ref C)) (ha : PA X (e :: es) ta) (hdb : (x == ("__debug__" : Str)) = false := by decide)
    (hst : starEach (e :: es) X.env = (false, eval e X.env) :: starEach es X.env := by rfl) (hpl : (backTo pos (starEach es X.env)).any (·.1) = false := by rfl) : PE X (.Call (.Name x p) (e :: es) [] pos) (tXmk C fld ta) := by
  refine ⟨fun pins s σ H Q I h => ?_⟩
  refine wpAny_Call_Name_kw (ld_glob I hg hm ?_ hdb)
  refine PySem.W.callWith_K (h₀ := X.base) I.ok.mod.kin T.T.kC (thn (ha.run pos pins s σ H _ I h) fun us s1 ⟨vs, H1, I1, r1, v, ev, q1⟩ => ⟨I1.kIn, ?_⟩) hst hpl
  subst ev
  obtain ⟨u, rfl, ru⟩ := r1.one
  obtain ⟨hn, kk, I2⟩ := inv_start_x (C := C) I1 [u]
  refine wpAny_call (run_x (Q1 := fun v' H' => v' = .non ∧ Q (.ref (s1.heap.objs.size + 1)) H') T hr I1 ru (fun d hd hne => ⟨rfl, q1 _ d hn hd hne⟩) (fun s' c => ?_) fun v' H' q => q.1)
  obtain ⟨v', H', I3, _, _, q⟩ := I2.after c
  exact ⟨.ref (s1.heap.objs.size + 1), H', I3, rfl, q⟩
/-- C(e), to be raised -/
def tXraise (C : Addr) (fld : Str) (ta : TA) : L2.St → Hp → XK → Prop := fun σ H Q => ta σ H fun vs H1 => ∃ v, vs = [v] ∧ ∀ d, H1 d = none → Q (.ref C) (some d) (upd H1 d (.xd [(fld, v)]))
theorem pmk_x {es : List Expr} {ta : TA} (T : XI X C fld) (hr : Room 2 X.A) (hg : Gl X x) (hm : X.mg x = some (.ref C)) (ha : PA X (e :: es) ta) (hdb : (x == ("__debug__" : Str)) = false := by decide)
    (hst : starEach (e :: es) X.env = (false, eval e X.env) :: starEach es X.env := by rfl) (hpl : (backTo pos (starEach es X.env)).any (·.1) = false := by rfl) : PMk X (.Call (.Name x p) (e :: es) [] pos) (tXraise C fld ta) := by
  intro pins s σ H Q I h
  refine wpAny_Call_Name_kw (ld_glob I hg hm ?_ hdb)
  refine PySem.W.callWith_K (h₀ := X.base) I.ok.mod.kin T.T.kC (thn (ha.run pos pins s σ H _ I h) fun us s1 ⟨vs, H1, I1, r1, v, ev, q1⟩ => ⟨I1.kIn, ?_⟩) hst hpl
  subst ev
  obtain ⟨u, rfl, ru⟩ := r1.one
  obtain ⟨hn, kk, I2⟩ := inv_start_x (C := C) I1 [u]
  refine wpAny_call (run_x (Q1 := fun v' H' => v' = .non ∧ ∃ d, H1 d = none ∧ d ≠ s1.heap.objs.size + 1 ∧ H' = upd (upd H1 (s1.heap.objs.size + 1) (exo (s1.heap.objs.size + 1) C (some d))) d (exd d [(fld, v)])) T hr I1 ru
    (fun d hd hne => ⟨rfl, d, hd, hne, rfl⟩) (fun s' c => ?_) fun v' H' q => q.1)
  obtain ⟨v', H', os', bare', un', hok', rv', ev, d, hd, hne, eH⟩ := c
  subst eH
  obtain ⟨h0, g, dr, tk, os⟩ := s1
  obtain ⟨h2, g2, d2, t2, os2⟩ := s'
  have eD : upd (del (upd (upd H1 (h0.objs.size + 1) (exo (h0.objs.size + 1) C (some d))) d (exd d [(fld, v)])) (h0.objs.size + 1)) d (.xd [(fld, v)]) = upd H1 d (.xd [(fld, v)]) := by
    funext b
    by_cases hb : b = d
    · rw [hb, upd_same, upd_same]
    · rw [upd_ne hb, upd_ne hb]
      by_cases hb2 : b = h0.objs.size + 1
      · rw [hb2, del_same]
        exact hn.symm
      · rw [del_ne hb2, upd_ne hb, upd_ne hb2]
  exact mk_end (raises_own T.T.exC T.T.tyC) I1 (Nat.le_succ _) kk un' hok' os' bare' (by rw [upd_ne (Ne.symm hne), upd_same]) upd_same hd (by rw [eD]; exact q1 d hd)
end
end Xo
set_option Elab.async false
set_option linter.all false
set_option maxRecDepth 100000
set_option maxHeartbeats 1000000
/-! Xt: try: .. except (A, B, C) as n: e = n, the exception kept -/
namespace Xo
open PySem PySem.Spec PyProof.Rows L2
/-- an exception that is kept: its class, its dict -/
def xob (a : Addr) (cls : Value) (d : Option Addr) : HO := .ext fun h => ∃ o vs, h.get? a = some o ∧ Zc cls d o ∧ o.data = .fields vs
theorem xob_ok {P : Program} {w : World} {H : Hp} {h : Heap} {a : Addr} {cls : Value} {d : Option Addr} {o : Obj} {vs : Array Value} (e : h.get? a = some o) (z : Zc cls d o) (f : o.data = .fields vs) : ObjOk P w H h a (xob a cls d) :=
  ⟨⟨o, vs, e, z, f⟩, ⟨o, e⟩, fun h1 h2 ⟨o', vs', e', z', f'⟩ k => ⟨o', vs', k _ e', z', f'⟩⟩
section
variable {X : Cx} {pins : List (Addr × Obj)} {σ : L2.St} {H : Hp} {s : Shared}
/-- tracked from now on, what the entry's heap had not -/
theorem inv_trackN {a : Addr} {o : HO} (I : Inv X pins σ H s) (h0 : X.s_0.heap.get? a = none) (hn : H a = none) (nL : a ≠ X.env.locals) (nC : ∀ y c, X.env.cells.lookup y = some c → c ≠ a) (nP : ∀ p ∈ X.pn ++ pins, p.1 ≠ a)
    (new : ObjOk X.prog X.w (upd H a o) s.heap a o) : Inv X pins σ (upd H a o) s := by
  have nt : ∀ {b u}, H b = some u → b ≠ a := fun {b u} e => ne_of_none e hn
  have n0 : ∀ {b u}, X.s_0.heap.get? b = some u → b ≠ a := fun {b u} e z => by
    rw [z, h0] at e
    cases e
  refine ⟨I.ok, I.os, I.bare, ⟨I.base.keep, I.base.slot, fun b u e n x => ?_, I.base.there, fun b xs e => ?_, fun b u v e => ?_, fun b ps e => ?_⟩, I.loc, I.cell, ?_, fun y c e => ?_, fun p hp => ?_, fun b u e => ?_, I.len⟩
  · rw [upd_ne (n0 e)]
    exact I.base.free b u e n x
  · have q := I.base.tups b xs e
    rw [upd_ne (nt q)]
    exact q
  · have q := I.base.frzs b u v e
    rw [upd_ne (nt q)]
    exact q
  · obtain ⟨more, q⟩ := I.base.tbls b ps e
    exact ⟨more, by rw [upd_ne (nt q)]; exact q⟩
  · rw [upd_ne (Ne.symm nL)]
    exact I.free
  · rw [upd_ne (nC y c e)]
    exact I.freeC y c e
  · obtain ⟨q1, q2, q3⟩ := I.pin p hp
    exact ⟨q1, by rw [upd_ne (nP p hp)]; exact q2, q3⟩
  · by_cases hb : b = a
    · rw [hb, upd_same] at e
      cases e
      rw [hb]
      exact new
    · rw [upd_ne hb] at e
      exact (I.hok b u e).stay (fun _ _ _ q => q) (fun c q => by rw [upd_ne (nt q)]; exact q) fun c xs q => by rw [upd_ne (nt q)]; exact q
theorem fl_keeps {B h h2 : Heap} {l : List Env} {a : Addr} {Z : Obj → Prop} (f : HandSPX.FlyingZ B l a Z h) (k : ∀ b o, h.get? b = some o → h2.get? b = some o) : HandSPX.FlyingZ B l a Z h2 := by
  obtain ⟨k1, k2, k3, oe, vs, T, oT, ts, e1, e2, e3, e4, e5, e6, e7, e8, e9⟩ := f
  exact ⟨fun b o q => k b o (k1 b o q), k2, Heap.FunFrames.of_keeps (fun b o e _ => ⟨o, k b o e, rfl⟩) k3, oe, vs, T, oT, ts, k _ _ e1, e2, e3, e4, e5, e6, k _ _ e7, e8, e9⟩
end
/-- what the clause wishes of an exception of the body -/
def wKeep (K : PySem.W.Frag) (cs : List Value) (i j : Nat) (D : Ends) : WX := fun cls d σ H => PySem.W.exmAny K cls cs = some true ∧ ∀ a, H a = none → D.nx (((σ.set i (some (.ref a))).set j (some (.ref a))).set i none) (upd H a (xob a cls d))
section
variable {X : Cx} {n y x1 x2 x3 : Str} {C1 C2 C3 : Addr} {i j k : Nat} {body : List Stmt} {q1 q2 q3 qt py pn pa pos pos' : Pos} {tb : WX → TS}
theorem ps_try_keep (hs : X.stack = X.env :: X.outer) (hf : X.env.frame = some X.env.locals) (hex : X.ex = []) (hN : X.N.Nodup) (hi : X.N[i]? = some n) (hln : X.env.kindOf n = some .local) (hj : X.N[j]? = some y) (hlj : X.env.kindOf y = some .local)
    (g1 : Gl X x1 ∧ X.mg x1 = some (.ref C1) ∧ (x1 == ("__debug__" : Str)) = false) (g2 : Gl X x2 ∧ X.mg x2 = some (.ref C2) ∧ (x2 == ("__debug__" : Str)) = false) (g3 : Gl X x3 ∧ X.mg x3 = some (.ref C3) ∧ (x3 == ("__debug__" : Str)) = false)
    (hdn : (n == ("__debug__" : Str)) = false) (hdc : (n == ("__classdict__" : Str)) = false)
    (hb : ∀ (W : WX) (pn : List (Addr × Obj)) (xe : Value → Shared → Prop), Takes (X.tr pn xe) W → PassesOwn (model X.prog X.w) X.A X.env xe → PSs (X.tr pn xe) body (tb W)) :
    PS X (.Try body [.ExceptHandler (some (.Tuple [.Name x1 q1, .Name x2 q2, .Name x3 q3] k qt)) (some n) [.Assign [.Name y py] (.Name n pn) pa] pos'] [] [] pos)
      (fun D σ H => tb (wKeep X.K [.ref C1, .ref C2, .ref C3] i j D) D σ H) := by
  refine ⟨fun pins s σ H D I h => ?_⟩
  have okX := I.ok
  have frX : X.A.frames = some (X.env :: X.outer) := by rw [okX.frames, hs]
  have locN : Loc X.env.scope n := .inl hln
  refine wpAny_Try_except ?_
  refine wpAny_mono ((hb (wKeep X.K [.ref C1, .ref C2, .ref C3] i j D) (X.pn ++ pins) (fun e t1 => wpAny (model X.prog X.w) X.A (noteFrame e X.env) (fun _ t2 => wpAny (model X.prog X.w) X.A (setFlight e none)
    (fun _ t3 => wpAny (model X.prog X.w) X.A (handleBy e X.env [.ExceptHandler (some (.Tuple [.Name x1 q1, .Name x2 q2, .Name x3 q3] k qt)) (some n) [.Assign [.Name y py] (.Name n pn) pa] pos']) (SP X pins D) X.xe t3) X.xe t2) X.xe t1)
    (fun u t xx => ?_) PassesOwn.looking).run [] s σ H D (I.toTry _) h) (fun fl t hsp => ?_) (fun e t he => he)
  · obtain ⟨a, B, t0, pins', σ', H', cls, d, rfl, J', nb, up, sky, na, hos, hag, hany, hnx⟩ := xx
    have J : Inv X pins σ' H' t0 := J'.ofTry okX
    have sky2 : Sky B (X.env :: X.outer) a (Zc cls d) X.env.locals t.heap := by rw [← hs]; exact sky
    show wpAny (model X.prog X.w) X.A (noteFrame (.ref a) X.env) _ _ _
    refine Sky.land Zc.steady frX hf sky2 fun h3 fl3 up3 => ?_
    have J3 : Inv X pins σ' H' { t with heap := h3 } := J.landed nb fl3.1 (up.trans up3) hos hag
    obtain ⟨o3, vs3, he3, hz3, hd3⟩ := fl3.there
    have nfr : a ∉ frs (X.env :: X.outer) := fun hm => by
      obtain ⟨_, o', e', hnf⟩ := fl3.2.2.1.mem hm
      rw [he3] at e'
      cases e'
      exact hnf _ hd3
    have nL : a ≠ X.env.locals := fun z => nfr (List.mem_filterMap.mpr ⟨X.env, List.mem_cons_self, by rw [hf, z]⟩)
    have nF : a ∉ X.fs := fun hm => by
      obtain ⟨e, he, q⟩ := List.mem_filterMap.mp hm
      exact nfr (List.mem_filterMap.mpr ⟨e, List.mem_cons_of_mem _ he, q⟩)
    have S3 := J3.suite he3 hd3 na nL nF
    -- the tuple of the classes
    refine wpAny_handleBy_cons (codeAny_handlers_test ?_) (by intro q; cases q)
    refine wpAny_Tuple (wpAny_items_cons (ld_glob (X := X.suite a ((a, o3) :: (X.pn ++ pins))) S3 g1.1 g1.2.1 (wpAny_items_cons (ld_glob (X := X.suite a ((a, o3) :: (X.pn ++ pins))) S3 g2.1 g2.2.1
      (wpAny_items_cons (ld_glob (X := X.suite a ((a, o3) :: (X.pn ++ pins))) S3 g3.1 g3.2.1 (wpAny_items_nil ⟨(show 3 ≤ sizeLine by decide), ?_⟩) g3.2.2)) g2.2.2)) g1.2.2))
    have kp : ∀ b o, h3.get? b = some o → (h3.push { cls := .type "tuple", data := .seq [Value.ref C1, .ref C2, .ref C3].toArray }).get? b = some o := fun _ _ z => Heap.get?_push_of_some _ z
    have htp : (h3.push { cls := .type "tuple", data := .seq [Value.ref C1, .ref C2, .ref C3].toArray }).get? h3.objs.size = some { cls := .type "tuple", data := .seq [Value.ref C1, .ref C2, .ref C3].toArray } := Heap.get?_push_size h3 rfl
    show wpAny _ _ (excMatches (.ref a) (.ref h3.objs.size)) _ _ { t with heap := h3.push { cls := .type "tuple", data := .seq [Value.ref C1, .ref C2, .ref C3].toArray } }
    generalize h3.push { cls := .type "tuple", data := .seq [Value.ref C1, .ref C2, .ref C3].toArray } = h4 at kp htp
    have fl4 := fl_keeps fl3 kp
    have he4 := kp _ _ he3
    have LT : PySem.W.Looks (model X.prog X.w) h4 (typeOf (.ref a)) cls := fun A Q E s k q => wpAny_typeOf_ref (k _ _ he4) (by rw [hz3.1]; exact q)
    refine (PySem.W.exm_tup3 (M := model X.prog X.w) (J3.kIn.keeps kp) LT htp hany).here ?_
    refine codeAny_handlers_suite_as ?_
    refine HandSPX.lands_againZ fl4 fun h5 fl5 up5 => ?_
    have J5 : Inv X pins σ' H' { t with heap := h5 } := J.landed nb fl5.1 (((up.trans up3).trans (Heap.UpToSlots.of_keeps kp)).trans up5) hos hag
    obtain ⟨o5, vs5, he5, hz5, hd5⟩ := fl5.there
    have S5 := J5.suite he5 hd5 na nL nF
    refine store_ok (X := X.suite a ((a, o5) :: (X.pn ++ pins))) (v := .ref a) S5 hN hi locN rfl (fun t6 S6 => ?_) (.inr hln)
    have suite : PSs (X.suite a ((a, o5) :: (X.pn ++ pins))) [.Assign [.Name y py] (.Name n pn) pa] (tAsg (tVar i) (gName j)) := pss_one (ps_set (i := j) hN hj (.inl hlj) (pe_var (i := i) hi (.inl hln) hdn hdc) (by rfl) (.inr hlj))
    have hil : i < σ'.length := by
      rw [J.len]
      exact (List.getElem?_eq_some_iff.mp hi).1
    refine wpAny_mono (suite.run [] t6 _ H' { nx := fun σ6 H6 => σ6 = (σ'.set i (some (.ref a))).set j (some (.ref a)) ∧ H6 = H', rt := fun _ _ => False } S6 ⟨.ref a, by rw [List.getElem?_set_self hil], rfl, rfl⟩) (fun fl t7 hsp => ?_) (fun _ _ z => False.elim z)
    cases fl with
    | next =>
      obtain ⟨σ7, H7, S7, rfl, rfl⟩ := hsp
      have J7 := S7.unsuite okX
      obtain ⟨he7, _⟩ := S7.pin (a, o5) (List.mem_append_left _ List.mem_cons_self)
      have n0 : ∀ b o, t0.heap.get? b = some o → b ≠ a := fun b o e z => by
        rw [z] at e
        have q := nb a o e (by rw [hs]; exact nfr)
        rw [fl3.2.1] at q
        cases q
      have hs0 : X.s_0.heap.get? a = none := by
        cases q : X.s_0.heap.get? a with
        | none => rfl
        | some o =>
          obtain ⟨o', q'⟩ := J.base.there a o q (by rw [hex]; simp)
          exact absurd rfl (n0 a o' q')
      have J8 := inv_trackN (o := xob a cls d) J7 hs0 na nL (fun y c e z => by
        obtain ⟨v, oc, q1, q2⟩ := J7.cell y c e
        rw [z, he7] at q1
        cases q1
        rw [hd5] at q2
        cases q2) (fun p hp => n0 _ _ (J.pin p hp).1) (xob_ok he7 hz5 hd5)
      exact gone_ok J8 hN hi hln fun t9 J9 => ⟨_, _, J9, hnx a na⟩
    | brk =>
      obtain ⟨_, _, _, q⟩ := hsp
      exact False.elim q
    | cont =>
      obtain ⟨_, _, _, q⟩ := hsp
      exact False.elim q
    | ret u =>
      obtain ⟨_, _, _, _, _, q⟩ := hsp
      exact False.elim q
  · cases fl with
    | next =>
      obtain ⟨σ', H', J', q⟩ := hsp
      exact wpAny_execs_nil ⟨σ', H', J'.ofTry okX, q⟩
    | brk =>
      obtain ⟨σ', H', J', q⟩ := hsp
      exact ⟨σ', H', J'.ofTry okX, q⟩
    | cont =>
      obtain ⟨σ', H', J', q⟩ := hsp
      exact ⟨σ', H', J'.ofTry okX, q⟩
    | ret u =>
      obtain ⟨v, σ', H', J', r, q⟩ := hsp
      exact ⟨v, σ', H', J'.ofTry okX, r, q⟩
end
end Xo
set_option Elab.async false
set_option linter.all false
set_option maxRecDepth 100000
set_option maxHeartbeats 1000000
/-! Xi: a kept exception asked for its class; its field read -/
namespace PySem.W
open PySem PySem.Spec PySem.Calls PyProof.Rows
section
variable {prog : Program} {w : World} {A : Around} {E : Value → Shared → Prop} {s : Shared} {K : Frag} {x D : Addr} {ox od : Obj}
/-- its __class__ -/
theorem xi_class {Q : Option Value → Shared → Prop} (T : L2.ExcC K D) (X : K.In s.heap) (I : InstAt s.heap x ox D (some od)) (h : Q (some (.ref D)) { s with toks := s.toks + 1 }) : wpAny (model prog w) A (getAttr? (.ref x) "__class__") Q E s := by
  have fo : findObj K D (some od) "__class__" = some (.bind (.builtin "getset_descriptor.__get__") (.builtin "object.__class__")) := findObj_data (by obtain ⟨cd, hc, _⟩ := any_some T.hd; rw [hc]; rfl) T.ha T.hn T.ht
  obtain ⟨h0, g, d, t, os⟩ := s
  have K0 := I.type (M := model prog w)
  have K1 := looks_findIn (M := model prog w) X T.hg
  have K2 := looks_findIn (M := model prog w) X T.hk
  have K3 := looks_find (M := model prog w) X I fo
  have isB : Looks (model prog w) h0 (isInstance (.ref x) (.type "BaseException")) true := K0.andThen (looks_subIn X T.hs)
  have c0 : (false && onTheHeap (Value.builtin "BaseException.__getattribute__")) = false := rfl
  have c1 : (onTheHeap (Value.ref D) && Value.builtin "BaseException.__getattribute__" == Value.builtin "object.__getattribute__") = false := by
    rw [show (Value.builtin "BaseException.__getattribute__" == Value.builtin "object.__getattribute__") = false by decide +kernel]
    rfl
  unfold getAttr? getAttrBy? getAttrBy
  refine wpAny_bind (wpAny_mkText (wpAny_bind (wpAny_attempt (wpAny_holding (wpAny_bind (K0.at (wpAny_bind (K1.at ?_))))))))
  show wpAny _ _ (if (onTheHeap (Value.ref D) && Value.builtin "BaseException.__getattribute__" == Value.builtin "object.__getattribute__") = true then _ else _) _ _ ⟨h0, g, d, t + 1, os⟩
  rw [c1, if_neg Bool.false_ne_true]
  unfold getAttrByItsOwn hookBefore
  refine wpAny_bind ?_
  rw [if_pos (show onTheHeap (Value.ref D) = true from rfl)]
  refine K2.at (wpAny_bind (wpAny_attempt (wpAny_holding ?_)))
  unfold callGetattribute
  rw [c0, if_neg Bool.false_ne_true]
  unfold boundAndCalled
  rw [F.excAttr_ValueError.ga.bind (.ref x)]
  refine wpAny_bind (wpAny_pure ?_)
  refine wpAny_call (codeAny_call_builtin F.excAttr_ValueError.ga.plain F.entry_bexc_ga ?_)
  refine @check_slot (model prog w) _ _ ⟨h0, g, d, t + 1, os⟩ "BaseException.__getattribute__" "BaseException" "__getattribute__" (.ref x) [.str "__class__" t] [] _ (by decide +kernel) (by decide +kernel) isB (F.args_bexc_ga (.ref x) (.str "__class__" t)) ?_
  unfold Builtin.«object.__getattribute__»
  refine wpAny_bind (wpAny_of_eq (a := ((Value.ref x : Value), [Value.str "__class__" t])) (by first | rfl | (simp only [slotArgs]; rfl)) ?_)
  refine wpAny_bind (wpAny_pure (wpAny_bind (K0.at (wpAny_bind (K3.at ?_)))))
  refine wpAny_bind (wpAny_holding (wpAny_call (class_get (s := ⟨h0, g, d, t + 1, os⟩) X I T.hm ?_)))
  refine wpAny_pure ?_
  show wpAny _ _ (handedOut (.ref D)) _ _ ⟨h0, g, d, t + 1, os⟩
  rw [handedOut_of (v := .ref D) rfl]
  first
    | exact wpAny_pure (wpAny_pure h)
    | exact wpAny_pure h
    | exact wpAny_pure (wpAny_bind (wpAny_pure (wpAny_pure h)))
theorem xi_kit (T : L2.ExcC K D) : KitX K (.ref x) (.ref D) (fun h => InstAt h x ox D (some od)) where
  ty := fun _ _ _ I => I.type
  it := fun _ _ X _ => by
    obtain ⟨cd, hc, _⟩ := any_some T.hd
    unfold clsIn at hc
    split at hc
    · rename_i ho
      intro A' Q' E' s' k q
      unfold isType loadHead
      exact wpAny_bind (wpAny_loadPart (k _ _ (X _ _ ho)) (wpAny_pure q))
    · cases hc
  ne := fun h tp dd its n sl X htp => Bool.eq_false_iff.mpr fun q => by
    obtain ⟨cd, hc, _⟩ := any_some T.hd
    have e : D = tp := Value.ref.inj (beq_iff_eq.mp q)
    subst e
    unfold clsIn at hc
    split at hc
    · rename_i ho
      cases (X _ _ ho).symm.trans htp
    · cases hc
  ca := fun X I k => xi_class T X I k
end
end PySem.W
namespace Xo
open PySem PySem.Spec PyProof.Rows L2
/-- an exception of the class at C stands at a, its fields fs at d -/
def XAt (H : Hp) (a C d : Addr) (fs : List (Str × V)) : Prop := (H a = some (exo a C (some d)) ∨ H a = some (xob a (.ref C) (some d))) ∧ (H d = some (exd d fs) ∨ H d = some (.xd fs))
section
variable {X : Cx} {pins : List (Addr × Obj)} {σ : L2.St} {H : Hp} {s : Shared} {a C d : Addr} {fs : List (Str × V)}
theorem xat (I : Inv X pins σ H s) (h : XAt H a C d fs) : ∃ o od mA, PySem.W.InstAt s.heap a o C (some od) ∧ s.heap.get? d = some od ∧ s.heap.Ns1 d mA ∧ ∀ f, RelO (fs.lookup f) (mA f) := by
  have e1 : ∃ o vs, s.heap.get? a = some o ∧ Zc (.ref C) (some d) o ∧ o.data = .fields vs := by
    rcases h.1 with e | e
    · obtain ⟨t1, q⟩ := exo_at I.hok e
      exact ⟨_, _, q, ⟨rfl, rfl⟩, rfl⟩
    · have x : ObjOk X.prog X.w H s.heap a (.ext fun h => ∃ o vs, h.get? a = some o ∧ Zc (.ref C) (some d) o ∧ o.data = .fields vs) := I.hok a _ e
      exact x.1
  have e2 : ∃ mA, s.heap.Ns1 d mA ∧ ∀ f, RelO (fs.lookup f) (mA f) := by
    rcases h.2 with e | e
    · exact exd_at I.hok e
    · exact (show ObjOk X.prog X.w H s.heap d (.xd fs) from I.hok d _ e)
  obtain ⟨o, vs, q1, q2, q3⟩ := e1
  obtain ⟨mA, n1, r⟩ := e2
  obtain ⟨od, ho, hl⟩ := lookIn_ns n1
  exact ⟨o, od, mA, ⟨q1, q2.1, by unfold PySem.W.notCls; rw [q3] <;> rfl, by rw [q2.2]; exact ho⟩, ho, n1, r⟩
/-- isinstance(e, c): one class -/
def rIsX (K : PySem.W.Frag) : List V → Hp → VK → Prop := fun xs H Q => ∃ (a C d : Addr) (fs : List (Str × V)) (c : V) (cv : Value) (b : Bool), xs = [.ref a, c] ∧ XAt H a C d fs ∧ ExcC K C ∧ ClsV c cv ∧ PySem.W.kitOne K (.ref C) cv = some b ∧ Q (.bl b) H
theorem call_isX : CallR X (.builtin "isinstance") (rIsX X.K) := by
  intro pins s σ H xs us Q I r h
  obtain ⟨a, C, d, fs, c, cv, b, rfl, xa, T, hc, e, q⟩ := h
  obtain ⟨u1, u2, rfl, r1, r2⟩ := vals2 r
  obtain rfl : u1 = Value.ref a := r1
  obtain ⟨o, od, mA, J, _⟩ := xat I xa
  cases hc.eq r2
  exact PySem.W.kia_one (PySem.W.xi_kit T) I.kIn J e (fun z => nomatch z) fun tk => ⟨.bl b, H, I.tok tk, rfl, q⟩
/-- isinstance(e, (c1, ..)) -/
def rIsXT (K : PySem.W.Frag) : List V → Hp → VK → Prop := fun xs H Q => ∃ (a C d : Addr) (fs : List (Str × V)) (tp : Addr) (cs : List V) (us : List Value) (b : Bool), xs = [.ref a, .ref tp] ∧ XAt H a C d fs ∧ ExcC K C ∧ H tp = some (.tup cs) ∧ Paired ClsV cs us ∧ PySem.W.kitAny K (.ref C) us = some b ∧ Q (.bl b) H
theorem call_isXT : CallR X (.builtin "isinstance") (rIsXT X.K) := by
  intro pins s σ H xs us Q I r h
  obtain ⟨a, C, d, fs, tp, cs, ws, b, rfl, xa, T, hT, k, e, q⟩ := h
  obtain ⟨u1, u2, rfl, r1, r2⟩ := vals2 r
  obtain rfl : u1 = Value.ref a := r1
  obtain rfl : u2 = Value.ref tp := r2
  obtain ⟨o, od, mA, J, _⟩ := xat I xa
  obtain ⟨_, its, rv, ob, h1, h2, n, h3⟩ := (show ObjOk X.prog X.w H s.heap tp (.tup cs) from I.hok tp _ hT)
  cases ClsV.all k rv
  obtain ⟨oc, dct, dt, sl⟩ := ob
  dsimp only at h2 h3
  subst h2 h3
  exact PySem.W.kia_tup (PySem.W.xi_kit T) I.kIn J h1 e (fun z => nomatch z) fun tk => ⟨.bl b, H, I.tok tk, rfl, q⟩
/-- e.f -/
def tXfld (K : PySem.W.Frag) (f : Str) (te : TE) : TE := fun σ H Q => te σ H fun x H1 => ∃ (a C d : Addr) (fs : List (Str × V)) (v : V), x = .ref a ∧ XAt H1 a C d fs ∧ XC K C ∧ PySem.W.findIn K (.ref C) f = some none ∧ fs.lookup f = some v ∧ Q v H1
theorem pe_xfld {e : Expr} {te : TE} {n : Str} {pos : Pos} (he : PE X e te) (hb : attributeBase e n X.env (eval e X.env) = eval e X.env := by rfl) : PE X (.Attribute e n pos) (tXfld X.K n te) := by
  refine ⟨fun pins s σ H Q I h => ?_⟩
  refine attr_of hb (thn (he.run pins s σ H _ I h) fun u s1 ⟨x, H1, I1, rx, a, C, d, fs, v, ex, xa, T, hno, hl, q⟩ => ?_)
  subst ex
  obtain rfl : u = Value.ref a := rx
  obtain ⟨o, od, mA, J, ho, n1, r⟩ := xat I1 xa
  obtain ⟨od', ho', hl'⟩ := lookIn_ns n1
  rw [ho] at ho'
  cases ho'
  obtain ⟨u, hu, ru⟩ := RelO.some_of (v := v) (o := mA n) (by rw [← hl]; exact r n)
  exact HandSPX.exc_get I1.kIn J T.ga T.gg T.exC (PySem.W.findObj_own T.hd hno rfl (by rw [hl', hu])) (handed_of ru) ⟨v, H1, I1.tok _, ru, q⟩
end
end Xo
set_option Elab.async false
set_option linter.all false
set_option maxRecDepth 100000
set_option maxHeartbeats 1000000
/-! Lm: x(lambda: e) and x(lambda n=0: e), the lambda called by x -/
namespace Lm
open PySem PySem.Spec PyProof.Rows L2 LamX
/-- the lambda's function -/
abbrev lmFn (q : Str) (params : Arguments) (body : Expr) (scope : Scope) (cl : List (Str × Addr)) (dV doc pm : Value) (c' : Addr) (ctv : Value) : FuncData := PySem.W.kdv_fn "<lambda>" q params (.expr body) scope cl dV doc pm (.ref c') ctv
/-- what is asked of its names: captured ones, globals, and parameters that the maker's text has no name like -/
structure LmS (N : List Str) (sc scope : Scope) (own : List Str) : Prop where
  kind : scope.kind = .function
  co : scope.isCoroutine = false
  gen : scope.isGenerator = false
  noc : ∀ y ∈ scope.names, y.2 ≠ .cell
  loc : ∀ y ∈ scope.names, y.2 = .local → y.1 ∉ N
  free : ∀ y ∈ scope.names, y.2 = .free → sc.names.lookup y.1 = some .cell ∨ sc.names.lookup y.1 = some .free
  par : ∀ n ∈ own, scope.names.lookup n = some .local
def lmB (N : List Str) (sc scope : Scope) (own : List Str) : Bool :=
  decide (scope.kind = .function) && (!scope.isCoroutine && (!scope.isGenerator && ((scope.names.all fun y => !decide (y.2 = .cell)) && ((scope.names.all fun y => !decide (y.2 = .local) || !decide (y.1 ∈ N)) &&
    ((scope.names.all fun y => !decide (y.2 = .free) || (decide (sc.names.lookup y.1 = some .cell) || decide (sc.names.lookup y.1 = some .free))) && (own.all fun n => decide (scope.names.lookup n = some .local)))))))
theorem lm_by {N : List Str} {sc scope : Scope} {own : List Str} (h : lmB N sc scope own = true) : LmS N sc scope own := by
  unfold lmB at h
  simp only [Bool.and_eq_true, Bool.or_eq_true, Bool.not_eq_true', decide_eq_true_eq, decide_eq_false_iff_not, List.all_eq_true] at h
  obtain ⟨h1, h2, h3, h4, h5, h6, h7⟩ := h
  exact ⟨h1, h2, h3, h4, fun y hy e => (h5 y hy).elim (fun z => absurd e z) id, fun y hy e => (h6 y hy).elim (fun z => absurd e z) id, h7⟩
section
variable {X : Cx} {pins : List (Addr × Obj)} {σ : L2.St} {H : Hp} {s : Shared}
theorem LmS.has {scope : Scope} {own : List Str} (L : LmS X.N X.env.scope scope own) (ok : X.Ok) : ∀ y ∈ scope.names, y.2 = .free → ∃ c, X.env.cells.lookup y.1 = some c := fun y hy e =>
  (L.free y hy e).elim (fun k => ok.has _ (.inl k)) fun k => ok.has _ (.inr k)
/-- behind the defaults -/
theorem lm_tail {T : List (Addr × Str)} {c P : Addr} {params : Arguments} {body : Expr} {scope : Scope} {dV : Value} {pos : Pos} {E : Value → Shared → Prop} {Q : Value → Shared → Prop} (I : Inv X pins σ H s) (TB : TabB X.base X.mg c P) (hcode : X.env.code = .ref c)
    (hm : (P, X.env.qual ++ "<lambda>") ∈ T) (hu : ∀ p ∈ T, p.1 = P → p.2 = X.env.qual ++ "<lambda>") (hT : Tabs T H) (hfree : ∀ y ∈ scope.names, y.2 = .free → ∃ c, X.env.cells.lookup y.1 = some c)
    (h : ∀ (f c' : Addr) (doc pm ctv : Value) (H1 : Hp) (s' : Shared), Inv X pins σ H1 s' → ExtN H H1 → Tabs T H1 → (∀ b o, s.heap.get? b = some o → H b = none → s'.heap.get? b = some o ∧ H1 b = none) →
      s'.heap.get? f = some { cls := .type "function", data := .func (lmFn (X.env.qual ++ "<lambda>") params body scope (cloFrom X.env.cells scope.names []) dV doc pm c' ctv) } → H1 f = none → f ∉ frs X.stack → H1 c' = some (CodeO c' (X.env.qual ++ "<lambda>")) → Q (.ref f) s') :
    wpAny (model X.prog X.w) X.A (makeTail "<lambda>" (X.env.qual ++ "<lambda>") params (.expr body) scope X.env dV .none none pos pos.line) Q E s := by
  obtain ⟨ps, hP, ht, ha⟩ := hT _ hm
  have bP : s.heap.BuiltinsAt X.mg P := TB.bm.keeps I.bk
  have oP : s.heap.get? P = some { cls := .none, data := .fields ps } := I.hok P _ hP
  have out : ∀ f, s.heap.objs.size ≤ f → f ∉ frs X.stack := fun f hf z => by
    rcases List.mem_cons.mp (I.stkSub _ z) with e | e
    · have := I.lt
      rw [← e] at this
      exact Nat.lt_irrefl _ (Nat.lt_of_lt_of_le this hf)
    · exact I.nofs hf e
  cases hc : codeAmong pos ps.toList with
  | none =>
    refine PySem.W.kdv_makeTail (mg := X.mg) (c := c) (P := P) (ps := ps) (closure_ok hfree) I.ok.glob (I.mod.glob.keeps I.bk) hcode (TB.code.keeps I.bk) oP ht hc TB.gP bP fun c' ctv doc h1 tk hx hge hlt hrec htb => ?_
    obtain ⟨c2, oc, vs, t, e2, hoc, hd, hv⟩ := hrec
    cases e2
    have hz : s.heap.objs.size ≤ h1.objs.size := Nat.le_trans hge (Nat.le_of_lt hlt)
    have nC : H c' = none := I.hok.fresh hge
    have I1 := inv_table (t' := tk) (more := #[rawInt pos.line, rawInt pos.col, .ref c'])
      (h' := h1.push { cls := .type "function", data := .func (lmFn (X.env.qual ++ "<lambda>") params body scope (cloFrom X.env.cells scope.names []) dV doc ((X.mg "__name__").getD .none) c' ctv) }) I hP
      (fun b o hb e => Heap.get?_push_of_some _ (hx b o hb e)) (Heap.get?_push_of_some _ htb) hge ⟨oc, vs, t, Heap.get?_push_of_some _ hoc, hd, hv⟩
    have nPb : ∀ b, H b = none → b ≠ P := fun b e z => by
      rw [z, hP] at e
      cases e
    have eN : ExtN H (upd (upd H P (.tbl (ps ++ #[rawInt pos.line, rawInt pos.col, .ref c']))) c' (CodeO c' (X.env.qual ++ "<lambda>"))) := fun b o e n => by
      rw [upd_ne (ne_of_none e nC), upd_ne (fun z => n ps (Option.some.inj (e.symm.trans (by rw [z]; exact hP))))]
      exact e
    have eL : (ps ++ #[rawInt pos.line, rawInt pos.col, .ref c']).toList = ps.toList ++ [rawInt pos.line, rawInt pos.col, .ref c'] := by simp
    refine h h1.objs.size c' doc ((X.mg "__name__").getD .none) ctv _ _ I1 eN (fun p hp => ?_) (fun b o e n => ⟨Heap.get?_push_of_some _ (hx b o (nPb b n) e), ?_⟩) (Heap.get?_push_size _ rfl) ?_ (out _ hz) upd_same
    · by_cases hb : p.1 = P
      · rw [hu p hp hb, hb]
        refine ⟨_, by rw [upd_ne (ne_of_none hP nC), upd_same], by rw [eL]; exact PySem.TriplesOk_snoc _ _ _ _ ht, fun p' cv hcv => ?_⟩
        rw [eL] at hcv
        rcases among_app _ ht hcv with z | z
        · obtain ⟨c0, e1, e2⟩ := ha p' cv z
          exact ⟨c0, e1, eN _ _ e2 codeO_ne⟩
        · exact ⟨c', z, upd_same⟩
      · obtain ⟨ps', a1, a2, a3⟩ := hT p hp
        refine ⟨ps', by rw [upd_ne (ne_of_none a1 nC), upd_ne hb]; exact a1, a2, fun p' cv hcv => ?_⟩
        obtain ⟨c0, e1, e2⟩ := a3 p' cv hcv
        exact ⟨c0, e1, eN _ _ e2 codeO_ne⟩
    · rw [upd_ne (fun z => Nat.lt_irrefl _ (Nat.lt_of_lt_of_le (Heap.lt_size e) (by rw [z]; exact hge))), upd_ne (nPb b n)]
      exact n
    · rw [upd_ne (Nat.ne_of_gt hlt), upd_ne (Nat.ne_of_gt (Nat.lt_of_lt_of_le (Heap.lt_size oP) hz))]
      exact I.hok.fresh hz
  | some cv =>
    obtain ⟨c', e, hco⟩ := ha pos cv hc
    subst e
    refine PySem.W.kdv_makeTailHit (mg := X.mg) (c := c) (P := P) (ps := ps) (closure_ok hfree) I.ok.glob (I.mod.glob.keeps I.bk) hcode (TB.code.keeps I.bk) oP ht hc bP fun ctv doc h1 tk hx hz => ?_
    have I1 : Inv X pins σ H { s with heap := h1.push { cls := .type "function", data := .func (lmFn (X.env.qual ++ "<lambda>") params body scope (cloFrom X.env.cells scope.names []) dV doc ((X.mg "__name__").getD .none) c' ctv) }, toks := tk } :=
      I.kept fun b o e => Heap.get?_push_of_some _ (hx b o e)
    exact h h1.objs.size c' doc ((X.mg "__name__").getD .none) ctv H _ I1 (ExtN.refl H) hT (fun b o e n => ⟨Heap.get?_push_of_some _ (hx b o e), n⟩) (Heap.get?_push_size _ rfl) (I.hok.fresh hz) (out _ hz) hco
/-- a lambda stands at f, called without arguments it binds bs -/
def LamAt (h : Heap) (H : Hp) (fr : List Addr) (f : Addr) (FD : FuncData) (bs : List (Str × Value)) : Prop :=
  h.get? f = some { cls := .type "function", data := .func FD } ∧ H f = none ∧ f ∉ fr ∧ ∀ s2 : Shared, (∀ b o, h.get? b = some o → H b = none → b ∉ fr → s2.heap.get? b = some o) → BindsTo s2 FD ⟨[], []⟩ bs
/-- what the making leaves -/
def Made (X : Cx) (pins : List (Addr × Obj)) (σ : L2.St) (H : Hp) (T : List (Addr × Str)) (params : Arguments) (body : Expr) (scope : Scope) (own : List Str) (Q : Value → Shared → Prop) : Prop :=
  ∀ (f c' : Addr) (dV doc pm ctv : Value) (bs : List (Str × Value)) (H1 : Hp) (s' : Shared), Inv X pins σ H1 s' → ExtN H H1 → Tabs T H1 → bs.map (·.1) = own →
    LamAt s'.heap H1 (frs X.stack) f (lmFn (X.env.qual ++ "<lambda>") params body scope (cloFrom X.env.cells scope.names []) dV doc pm c' ctv) bs → H1 c' = some (CodeO c' (X.env.qual ++ "<lambda>")) → Q (.ref f) s'
theorem lm_make0 {T : List (Addr × Str)} {c P : Addr} {params : Arguments} {body : Expr} {scope : Scope} {pos : Pos} {E : Value → Shared → Prop} {Q : Value → Shared → Prop} (I : Inv X pins σ H s) (TB : TabB X.base X.mg c P) (hcode : X.env.code = .ref c)
    (hm : (P, X.env.qual ++ "<lambda>") ∈ T) (hu : ∀ p ∈ T, p.1 = P → p.2 = X.env.qual ++ "<lambda>") (hT : Tabs T H) (L : LmS X.N X.env.scope scope []) (hdef : defaultsOf params X.env = ([], []))
    (hbind : ∀ (q : Str) (cl : List (Str × Addr)) (doc pm ctv : Value) (c' : Addr), bindArgs (lmFn q params body scope cl .none doc pm c' ctv) ⟨[], []⟩ = pure []) (h : Made X pins σ H T params body scope [] Q) :
    wpAny (model X.prog X.w) X.A (eval (.Lambda params body scope pos) X.env) Q E s := by
  refine PySem.W.kla_eval hdef ?_
  rw [makeFunction_eq]
  simp only [List.zip_nil_right, List.filterMap_nil, List.isEmpty_nil, if_true, pure_bind]
  exact lm_tail I TB hcode hm hu hT (L.has I.ok) fun f c' doc pm ctv H1 s' I1 eN T1 kp hf hfn hfr hco => h f c' .none doc pm ctv [] H1 s' I1 eN T1 rfl ⟨hf, hfn, hfr, fun s2 _ => .of_eq (hbind _ _ _ _ _ _)⟩ hco
theorem lm_make1 {T : List (Addr × Str)} {c P : Addr} {params : Arguments} {body : Expr} {scope : Scope} {pos pd : Pos} {E : Value → Shared → Prop} {Q : Value → Shared → Prop} {n : Str} {z : Int} {kd : Nat} (I : Inv X pins σ H s) (TB : TabB X.base X.mg c P) (hcode : X.env.code = .ref c)
    (hm : (P, X.env.qual ++ "<lambda>") ∈ T) (hu : ∀ p ∈ T, p.1 = P → p.2 = X.env.qual ++ "<lambda>") (hT : Tabs T H) (L : LmS X.N X.env.scope scope [n]) (hd : params.defaults = [.Constant (.int z) kd pd]) (hk0 : params.kw_defaults = [])
    (hbind : ∀ (q : Str) (cl : List (Str × Addr)) (dV doc pm ctv u : Value) (c' : Addr), ∃ k : Option (Array Value) → Sem (List (Str × Value)), bindArgs (lmFn q params body scope cl dV doc pm c' ctv) ⟨[], []⟩ = seqItems? dV >>= k ∧ k (some [u].toArray) = pure [(n, u)])
    (h : Made X pins σ H T params body scope [n] Q) : wpAny (model X.prog X.w) X.A (eval (.Lambda params body scope pos) X.env) Q E s := by
  refine PySem.W.kdv_lam (by rw [hd]; rfl) hk0 ?_
  rw [hd]
  refine PySem.W.kdv_all1 (thn ((show PE X (.Constant (.int z) kd pd) (tC (.int z)) from pe_int).run pins s σ H (fun v H1 => v = .int z ∧ H1 = H) I ⟨rfl, rfl⟩) fun u s1 ⟨v, H1, I1, r1, q1⟩ => PySem.W.kdv_all0 ?_)
  obtain ⟨ev, eH⟩ := q1
  subst ev eH
  rw [makeFunction_eq]
  simp only [List.zip_nil_right, List.filterMap_nil, List.isEmpty_nil, if_true, pure_bind, List.isEmpty_cons, Bool.false_eq_true, if_false]
  refine wpAny_bind (wpAny_newTextTuple ?_)
  have I2 : Inv X pins σ H1 { s1 with heap := s1.heap.push (PySem.W.kdv_tup [u]) } := I1.kept (t' := s1.toks) fun b o e => Heap.get?_push_of_some _ e
  have ot : (s1.heap.push (PySem.W.kdv_tup [u])).get? s1.heap.objs.size = some (PySem.W.kdv_tup [u]) := Heap.get?_push_size _ rfl
  have nt : H1 s1.heap.objs.size = none := I1.hok.fresh (Nat.le_refl _)
  have tf : s1.heap.objs.size ∉ frs X.stack := fun hz => by
    rcases List.mem_cons.mp (I1.stkSub _ hz) with e | e
    · exact absurd I1.lt (by rw [← e]; exact Nat.lt_irrefl _)
    · exact I1.nofs (Nat.le_refl _) e
  refine lm_tail I2 TB hcode hm hu hT (L.has I.ok) fun f c' doc pm ctv H2 s' I3 eN T1 kp hf hfn hfr hco => h f c' (.ref s1.heap.objs.size) doc pm ctv [(n, u)] H2 s' I3 eN T1 rfl ⟨hf, hfn, hfr, fun s2 k2 => ?_⟩ hco
  obtain ⟨q1, q2⟩ := kp _ _ ot nt
  obtain ⟨k, e1, e2⟩ := hbind (X.env.qual ++ "<lambda>") (cloFrom X.env.cells scope.names []) (.ref s1.heap.objs.size) doc pm ctv u c'
  exact BindsTo.of_defaults rfl (k2 _ _ q1 q2 tf) rfl e1 e2
end
section
variable {X : Cx} {pins : List (Addr × Obj)} {σ : L2.St} {H HZ : Hp} {s s1 : Shared}
/-- the lambda's body begins: the maker's names are seen through their cells -/
theorem lm_start {A : Around} {outer : List Env} {E : XK} {scope : Scope} {own : List Str} {f c' : Addr} {g1 : Heap} {tk : Nat} {bs : List (Str × Value)} (I : Inv X pins σ H s) (L : LmS X.N X.env.scope scope own) (e0 : Env0 X.prog X.w X.K X.mg X.base A outer s1 HZ) (hd : A.handled = none)
    (un : Un (frs X.stack) [] H HZ s.heap s1.heap) (hns : g1.Ns s1.heap.objs.size fun y => bs.reverse.lookup y) (kp : ∀ b o, s1.heap.get? b = some o → g1.get? b = some o) : Inv (lamCx X A outer s1 HZ E scope f c') [] σ HZ { s1 with heap := g1, toks := tk } := by
  have fr := L.has I.ok
  have back : ∀ {y c}, (cloFrom X.env.cells scope.names []).lookup y = some c → X.env.cells.lookup y = some c := fun {y c} e => by
    rcases cloFrom_mem (PySem.mem_of_lookup e) with z | ⟨z1, z2⟩
    · cases z
    · obtain ⟨c1, q⟩ := fr _ z1 rfl
      have q : X.env.cells.lookup y = some c1 := q
      rw [q] at z2
      have z2 : c = c1 := z2
      rw [z2]
      exact q
  have seen : ∀ {y}, scope.names.lookup y = some .free → ∃ c, (cloFrom X.env.cells scope.names []).lookup y = some c := fun {y} e => by
    have e : (y, NameKind.free) ∈ scope.names := PySem.mem_of_lookup e
    exact mem_lookup (cloFrom_has (cells := X.env.cells) (acc := []) e)
  have cells : ∀ {c : Addr} {v : Option Value}, H c = none → s.heap.IsCell c v → g1.IsCell c v := fun {c v} n ⟨o, e1, e2⟩ => by
    obtain ⟨sl, q⟩ := un.any e1 n (by simp)
    exact ⟨_, kp _ _ q, e2⟩
  have ex0 : ∀ b : Addr, b ∉ (lamCx X A outer s1 HZ E scope f c').ex := fun b z => nomatch (show b ∈ ([] : List Addr) from z)
  refine ⟨⟨e0.mod, L.kind, rfl, rfl, Nat.le_refl _, fun y z c e1 e2 => I.ok.inj y z c (back e1) (back e2), fun y hy => ?_, fun y c z _ => ?_, fun _ => hd, Around.frames_deeper e0.frames, .inr ⟨rfl, rfl⟩, fun b z => absurd z (ex0 b), e0.bs, e0.bsz,
      fun b _ _ => ex0 b, fun b z => absurd z (ex0 b), e0.funs, e0.frf⟩,
    rfl, e0.bare, Un.kept kp, ⟨_, hns, fun i y v e1 e2 e3 => ?_⟩, fun y c e => ?_, e0.hok.fresh (Nat.le_refl _), fun y c e => ?_, fun q hq => (nomatch (show q ∈ ([] : List (Addr × Obj)) ++ [] from hq)), e0.hok.kept kp, I.len⟩
  · have hy : scope.names.lookup y = some .cell ∨ scope.names.lookup y = some .free := hy
    rcases hy with hy | hy
    · exact absurd rfl (L.noc _ (PySem.mem_of_lookup hy))
    · exact seen hy
  · exact Bool.noConfusion (show false = true from z)
  · have e3 : Vis scope y := e3
    rcases e3 with k | k | k
    · exact absurd (List.mem_of_getElem? e1) (L.loc _ (PySem.mem_of_lookup k) rfl)
    · exact absurd rfl (L.noc _ (PySem.mem_of_lookup k))
    · obtain ⟨m, hn, hl⟩ := I.loc
      have vis : Vis X.env.scope y := (L.free _ (PySem.mem_of_lookup k) rfl).elim (fun k => .inr (.inl k)) fun k => .inr (.inr k)
      obtain ⟨u, r, q⟩ := hl i y v e1 e2 vis
      obtain ⟨c2, h2⟩ := seen k
      refine ⟨u, r, .inr ⟨.inr k, c2, h2, ?_⟩⟩
      rcases q with ⟨k1, _⟩ | ⟨_, c3, e4, z⟩
      · have k1 : X.env.scope.names.lookup y = some .local := k1
        rcases L.free _ (PySem.mem_of_lookup k) rfl with k2 | k2
        · have k2 : X.env.scope.names.lookup y = some .cell := k2
          rw [k2] at k1
          cases k1
        · have k2 : X.env.scope.names.lookup y = some .free := k2
          rw [k2] at k1
          cases k1
      · rw [back h2] at e4
        cases e4
        exact cells (I.freeC y _ (back h2)) z
  · obtain ⟨v, z⟩ := I.cell y c (back e)
    exact ⟨v, cells (I.freeC y c (back e)) z⟩
  · obtain ⟨v, o, e1, e2⟩ := I.cell y c (back e)
    exact un.free c o e1 (I.freeC y c (back e)) (by simp)
/-- the callee's context: entered at s from X -/
abbrev gCx (X : Cx) (Ng : List Str) (x : Str) (sg : Scope) (g : Addr) (cdg : Value) (s : Shared) (H : Hp) : Cx := cxOf C8.CX0 X.prog X.w X.K X.mg X.base Ng x sg g cdg X.A X.stack s H C8.E0
/-- a(), in the def that got the lambda -/
theorem pe_actD {Ng : List Str} {x a : Str} {sg : Scope} {g f c' : Addr} {cdg dV doc pm ctv : Value} {params : Arguments} {body : Expr} {scope : Scope} {own : List Str} {bs : List (Str × Value)} {k i : Nat} {pn : List (Addr × Obj)} {xe : Value → Shared → Prop} {W : WX} {E : XK} {tb : TE} {p1 p2 : Pos}
    (I : Inv X pins σ H s) (L : LmS X.N X.env.scope scope own) (ho : bs.map (·.1) = own) (la : LamAt s.heap H (frs X.stack) f (lmFn (X.env.qual ++ "<lambda>") params body scope (cloFrom X.env.cells scope.names []) dV doc pm c' ctv) bs)
    (tk : Takes ((gCx X Ng x sg g cdg s H).tr pn xe) W) (hr : Room (k + 1) (X.A.deeper (envOfC x sg s.heap.objs.size g cdg)))
    (hbody : ∀ (A : Around) (outer : List Env) (s : Shared) (H : Hp), Room k (A.deeper (lamEnv X scope s.heap.objs.size f c')) → PE (lamCx X A outer s H E scope f c') body tb)
    (hN : Ng[i]? = some a) (hv : Vis sg a) (hd : (a == ("__debug__" : Str)) = false := by decide) (hcd : (a == ("__classdict__" : Str)) = false := by decide) :
    PE ((gCx X Ng x sg g cdg s H).tr pn xe) (.Call (.Name a p1) [] [] p2) (fun σZ HZ Q => σZ[i]? = some (some (.ref f)) ∧ HZ c' = some (CodeO c' (X.env.qual ++ "<lambda>")) ∧ (∀ cls d H', E cls d H' → W cls d σZ H') ∧ tb σ HZ Q) := by
  refine ⟨fun pinsZ sZ σZ HZ Q IZ h => ?_⟩
  obtain ⟨hs, hc, hW, ht⟩ := h
  obtain ⟨hf, hfn, hfr, hbi⟩ := la
  refine wpAny_Call_Name_kw (thn ((pe_var (pos := p1) (i := i) hN hv hd hcd).run pinsZ sZ σZ HZ (fun v H1 => v = .ref f ∧ H1 = HZ) IZ ⟨.ref f, hs, rfl, rfl⟩) fun u s1 ⟨v, H1, I1, r1, q1⟩ => ?_)
  obtain ⟨ev, eH⟩ := q1
  subst ev eH
  obtain rfl : u = Value.ref f := r1
  have kept : ∀ b o, s.heap.get? b = some o → H b = none → b ∉ frs X.stack → s1.heap.get? b = some o := fun b o e n nf => I1.base.keep b o e n nf (fun z => nomatch (show b ∈ ([] : List Addr) from z))
  have of1 := kept f _ hf hfn hfr
  refine PySem.W.callWith_F0 ⟨_, _, _, _, of1⟩ ?_
  have un : Un (frs X.stack) [] H H1 s.heap s1.heap := I1.base
  obtain ⟨⟨oc, vs, t, hoc, hdc, hvc⟩, _, _⟩ := I1.hok c' _ hc
  have rc : codeAny (model X.prog X.w) (X.A.deeper (envOfC x sg s.heap.objs.size g cdg)) (.call (.ref f) ⟨[], []⟩) (CR (L2.CX X.prog X.w) (envOfC x sg s.heap.objs.size g cdg :: X.stack) X.prog X.w H1 s1 Q E) s1 := by
    refine PySem.W.kla_callFunE hr.depth of1 rfl L.co L.gen rfl ⟨c', oc, vs, t, rfl, hoc, hdc, hvc⟩ ?_
    refine hbi s1 kept _ _ _ _ (wpAny_newFunctionEnv L.noc (fun y hy => L.par _ (by rw [← ho]; exact List.mem_map_of_mem hy)) (fun g1 hns hsb => ⟨I1.nolimit.fresh _ hsb, ?_⟩) L.kind)
    show codeAny _ _ (.expr body (lamEnv X scope s1.heap.objs.size f c')) _ _
    have kp : ∀ b o, s1.heap.get? b = some o → g1.get? b = some o := fun b o e => hsb.extBut b o (Nat.ne_of_lt (Heap.lt_size e)) (Heap.get?_push_of_some _ e)
    have J := lm_start (A := X.A.deeper (envOfC x sg s.heap.objs.size g cdg)) (outer := envOfC x sg s.heap.objs.size g cdg :: X.stack) (E := E) (f := f) (c' := c') (tk := s1.toks + bs.length) I L I1.env0 hr.hd un hns kp
    refine PySem.W.kla_codeExpr (wpAny_mono ((hbody _ _ s1 H1 (hr.deeper _)).run [] _ _ H1 Q J ht) (fun v s' hq => ?_) fun e s' hq => hq)
    obtain ⟨w', H', J', rv, q⟩ := hq
    exact ⟨w', H', J'.os, J'.bare, J'.base, J'.hok, rv, q⟩
  refine wpAny_call (codeAny_mono rc fun r s' hq => ?_)
  cases r with
  | error e => exact tk e s' (XE.of_call I1 hW hq)
  | ok fl =>
    cases fl with
    | ret u => exact I1.after hq
    | next => exact False.elim hq
    | brk => exact False.elim hq
    | cont => exact False.elim hq
end
/-- the def that calls what it got: a calls it, W the wish of its place; TT: what it makes of the lambda's reading -/
def Gives (X : Cx) (Ng : List Str) (x : Str) (sg : Scope) (g : Addr) (cdg : Value) (bg : List Stmt) (a : Str) (q : Str) (TT : (XK → Hp → VK → Prop) → Hp → VK → Prop) : Prop :=
  ∀ (f c' : Addr) (s : Shared) (H : Hp) (Q : VK) (tl : XK → Hp → VK → Prop),
    (∀ (W : WX) (pn : List (Addr × Obj)) (xe : Value → Shared → Prop) (E : XK) (p1 p2 : Pos), Takes ((gCx X Ng x sg g cdg s H).tr pn xe) W →
      PE ((gCx X Ng x sg g cdg s H).tr pn xe) (.Call (.Name a p1) [] [] p2) (fun σZ HZ Q => σZ[0]? = some (some (.ref f)) ∧ HZ c' = some (CodeO c' q) ∧ (∀ cls d H', E cls d H' → W cls d σZ H') ∧ tl E HZ Q)) →
    H c' = some (CodeO c' q) → TT tl H Q → ∃ t, PSs (gCx X Ng x sg g cdg s H).nox bg t ∧ t { nx := fun _ H' => Q .non H', rt := Q } (L2.start Ng [.ref f]) H
/-- the lambda expression, made -/
def LamPE (X : Cx) (T : List (Addr × Str)) (params : Arguments) (body : Expr) (scope : Scope) (own : List Str) (lpos : Pos) : Prop :=
  ∀ (pins : List (Addr × Obj)) (σ : L2.St) (H : Hp) (s : Shared) (E Q : Value → Shared → Prop), Inv X pins σ H s → Tabs T H → Made X pins σ H T params body scope own (Q) → wpAny (model X.prog X.w) X.A (eval (.Lambda params body scope lpos) X.env) Q E s
section
variable {X : Cx}
/-- x(lambda ..: body) -/
theorem pe_lamD {T : List (Addr × Str)} {TT : (XK → Hp → VK → Prop) → Hp → VK → Prop} {x a : Str} {g : Addr} {k : Nat} {pg : Arguments} {bg : List Stmt} {sg : Scope} {dV kV doc pm cdv ct oc : Value} {an od : Option Addr} {osl : Array (Option Value)} {Ng : List Str}
    {params : Arguments} {body : Expr} {scope : Scope} {own : List Str} {t : XK → TE} {p lpos pos : Pos} (hg : Gl X x) (hm : X.mg x = some (.ref g)) (hk : PySem.W.keepIn X.K (.ref g) = true)
    (lk : X.K.lookup g = some ⟨oc, od, .func (PySem.W.fnOf x x pg bg sg dV kV doc pm an cdv ct), osl⟩) (hcg : PySem.W.codeIn X.K cdv x = true) (hb : L2.Binds X.K (PySem.W.fnOf x x pg bg sg dV kV doc pm an cdv ct) [a] []) (Sg : FnScope Ng [a] sg) (hNg : Ng[0]? = some a) (hva : Vis sg a)
    (hG : Gives X Ng x sg g cdv bg a (X.env.qual ++ "<lambda>") TT) (hr : Room (k + 2) X.A) (L : LmS X.N X.env.scope scope own) (hmk : LamPE X T params body scope own lpos)
    (hbody : ∀ (A : Around) (outer : List Env) (s : Shared) (H : Hp) (E : XK) (f c' : Addr), Room k (A.deeper (lamEnv X scope s.heap.objs.size f c')) → PE (lamCx X A outer s H E scope f c') body (t E))
    (hdb : (x == ("__debug__" : Str)) = false := by decide) (hd : (a == ("__debug__" : Str)) = false := by decide) (hcd : (a == ("__classdict__" : Str)) = false := by decide) :
    PE X (.Call (.Name x p) [.Lambda params body scope lpos] [] pos) (tLam T TT t) := by
  refine ⟨fun pins s σ H Q I h => ?_⟩
  obtain ⟨hT, h⟩ := h
  refine wpAny_Call_Name_kw (ld_glob I hg hm ?_ hdb)
  refine PySem.W.callWith_K (h₀ := X.base) I.ok.mod.kin hk ?_ (by rfl) (by rfl)
  show wpAny _ _ (spliced ((false, eval (.Lambda params body scope lpos) X.env) :: backTo pos (starEach [] X.env))) _ _ s
  refine Calls.spliced_cons (hmk pins σ H s _ _ I hT fun f c' dV' doc' pm' ctv bs H1 s' I1 eN T1 ho la hco => ?_)
  refine Calls.spliced_nil ⟨I1.kIn, ?_⟩
  have rc : codeAny (model X.prog X.w) X.A (.call (.ref g) ⟨[.ref f], []⟩) (CR C8.CX0 X.stack X.prog X.w H1 s' Q C8.E0) s' := by
    refine run_ofS (N := Ng) (ps := [a]) (us := [.ref f]) (vs := [.ref f]) lk hcg Sg hr I1.env0 (hb s' [.ref f] I1.kIn rfl) (.cons rfl .nil) rfl fun hr2 => ?_
    obtain ⟨t', ht', hq'⟩ := hG f c' s' H1 Q (fun E H' Q' => t E σ H' Q') (fun W pn xe E p1 p2 tk => pe_actD (i := 0) I1 L ho la tk hr2 (fun A outer s H hr3 => hbody A outer s H E f c' hr3) hNg hva hd hcd) hco (h H1 eN T1)
    exact ⟨t', ht'.nox, hq'⟩
  refine wpAny_call (codeAny_mono rc fun r s2 hq => ?_)
  cases r with
  | error e => exact (show False from hq).elim
  | ok fl =>
    cases fl with
    | ret u => exact I1.after hq
    | next => exact False.elim hq
    | brk => exact False.elim hq
    | cont => exact False.elim hq
end
end Lm
set_option Elab.async false
set_option linter.all false
set_option maxRecDepth 100000
set_option maxHeartbeats 1000000
/-! Sd: xs.count(y) of flat things; the def that asks a deed for its answer or its error -/
namespace Sd
open PySem PySem.Spec PyProof.Rows L2 LamX Xo
section
variable {X : Cx}
theorem count_eq {y : V} : ∀ {ys : List V} {its : List Value}, Vals ys its → ys.all flatV = true → its.countP (eqU y) = ys.countP fun z => eqV z y
  | [], _, .nil, _ => rfl
  | z :: ys, _ :: _, .cons r rr, f => by
    rw [List.all_cons, Bool.and_eq_true] at f
    rw [List.countP_cons, List.countP_cons, count_eq rr f.2, eqU_of r f.1]
def rCountF (K : PySem.W.Frag) : V → List V → Hp → VK → Prop := fun x xs H Q => ∃ (a : Addr) (ys : List V) (y : V), x = V.ref a ∧ xs = [y] ∧ SqL K H a ys ∧ flatV y = true ∧ ys.all flatV = true ∧ Q (.int ((ys.countP fun z => eqV z y) : Nat)) H
theorem mt_countF : MtR X "list.count" (rCountF X.K) := by
  intro pins s σ H x xs v us Q I rx rxs h
  obtain ⟨a, ys, y, rfl, rfl, hs, fy, fys, q⟩ := h
  cases rx
  obtain ⟨uy, rfl, ry⟩ := rxs.one
  obtain ⟨its, rv, ⟨⟨cls, dd, data, sl⟩, n, ho, hc, hdn, hd⟩, hlen⟩ := I.list hs
  dsimp only at hc hd
  subst hc hd
  refine call_meets F.slot_list_count ⟨_, ho, rfl⟩ F.entry_list_count (F.args_list_count_2 _ _) (SeqAt.list_countAt a its.toArray n dd sl uy (eqU y)) ⟨ho, fun u hu => mem_eqAt ry fy rv fys u (by simpa using hu), ?_⟩
  refine ⟨.int ((ys.countP fun z => eqV z y) : Nat), H, I.tok _, ⟨s.toks, ?_⟩, q⟩
  show Value.int ((its.toArray.toList.countP (eqU y) : Nat) : Int) s.toks = _
  rw [show its.toArray.toList.countP (eqU y) = ys.countP fun z => eqV z y from count_eq rv fys]
end
end Sd
set_option Elab.async false
set_option linter.all false
set_option maxRecDepth 100000
set_option maxHeartbeats 1000000
/-! Gd: defs that are run where no repr is under way; repr of data; the law's start told so -/
namespace Gd
open PySem PySem.Spec PyProof.Rows L2 LamX
/-! ### the start of a law -/
section
variable {P : Program} {w : World} {K : PySem.W.Frag} {mg mb : Str → Option Value} {CX : CXT} {fa a : Addr} {cs : List (Addr × Addr)} {s1 : Shared} {vs : List Value} {ns : List Int}
/-- the tracked addresses at the start, and what they hold -/
structure Begin (P : Program) (w : World) (K : PySem.W.Frag) (cs : List (Addr × Addr)) (a : Addr) (ns : List Int) (h : Heap) (tr : List Addr) (H : Hp) : Prop where
  out : ∀ b, b ∉ tr → H b = none
  inn : ∀ b, b ∈ tr → K.lookup b = none ∧ ∃ o, h.get? b = some o ∧ ((∃ vs n, o.data = .seq vs n) ∨ o.data = .fields #[])
  tab : ∀ p ∈ cs, p.2 ∈ tr ∧ H p.2 = some (.tbl #[])
  row : SqL K H a (ns.map V.int)
  two : ∀ b, b ∈ tr → (∃ p ∈ cs, p.2 = b) ∨ ((¬ ∃ p ∈ cs, p.2 = b) ∧ ∃ o u, H b = some (.frz o u))
  hok : HOk P w H h
theorem begins (ka : K.In s1.heap) (tabs : ∀ p ∈ cs, s1.heap.get? p.2 = some { cls := .none, data := .fields #[] }) (ntK : ∀ p ∈ cs, K.lookup p.2 = none) (ha : s1.heap.get? a = some { cls := .type "list", data := .seq vs.toArray }) (hi : IntsAre vs ns) (hl : ns.length ≤ sizeLine) :
    ∃ tr H, Begin P w K cs a ns s1.heap tr H := by
  have rv := vals_ints hi
  have aT : ¬ ∃ p ∈ cs, p.2 = a := fun ⟨p, hp, e⟩ => by
    have q := tabs p hp
    rw [e, ha] at q
    have z := congrArg Obj.data (Option.some.inj q)
    cases z
  have mT : ∀ {b}, b ∈ cs.map (·.2) → ∃ p ∈ cs, p.2 = b := fun {b} hb => List.mem_map.mp hb
  have tM : ∀ p ∈ cs, p.2 ∈ cs.map (·.2) := fun p hp => List.mem_map.mpr ⟨p, hp, rfl⟩
  have tO : ∀ b, b ∈ cs.map (·.2) → K.lookup b = none ∧ ∃ o, s1.heap.get? b = some o ∧ ((∃ vs n, o.data = .seq vs n) ∨ o.data = .fields #[]) := fun b hb => by
    obtain ⟨p, hp, rfl⟩ := mT hb
    exact ⟨ntK p hp, _, tabs p hp, .inr rfl⟩
  cases hk : K.lookup a with
  | some o =>
    have e := ka a o hk
    rw [ha] at e
    cases e
    refine ⟨cs.map (·.2), fun b => if b ∈ cs.map (·.2) then some (.tbl #[]) else none, fun b hb => if_neg hb, tO, fun p hp => ⟨tM p hp, if_pos (tM p hp)⟩,
      .inr ⟨_, vs.toArray, _, hk, rfl, rfl, rfl, by rw [List.size_toArray, hi.length]; exact hl, by simpa using rv⟩, fun b hb => .inl (mT hb), fun b u z => ?_⟩
    by_cases hb : b ∈ cs.map (·.2)
    · have z := (if_pos hb).symm.trans z
      cases z
      obtain ⟨p, hp, rfl⟩ := mT hb
      exact tabs p hp
    · have z := (if_neg hb).symm.trans z
      cases z
  | none =>
    have na : a ∉ cs.map (·.2) := fun z => aT (mT z)
    refine ⟨a :: cs.map (·.2), fun b => if b = a then some (.frz { cls := .type "list", data := .seq vs.toArray } (.lst (ns.map V.int))) else if b ∈ cs.map (·.2) then some (.tbl #[]) else none, fun b hb => ?_, fun b hb => ?_, fun p hp => ?_,
      .inl (.inr ⟨{ cls := .type "list", data := .seq vs.toArray }, if_pos rfl⟩), fun b hb => ?_, fun b u z => ?_⟩
    · rw [List.mem_cons] at hb
      exact (if_neg fun z => hb (.inl z)).trans (if_neg fun z => hb (.inr z))
    · rcases List.mem_cons.mp hb with rfl | hb
      · exact ⟨hk, _, ha, .inl ⟨_, _, rfl⟩⟩
      · exact tO b hb
    · have np : p.2 ≠ a := fun z => aT ⟨p, hp, z⟩
      exact ⟨List.mem_cons_of_mem _ (tM p hp), (if_neg np).trans (if_pos (tM p hp))⟩
    · rcases List.mem_cons.mp hb with rfl | hb
      · exact .inr ⟨aT, _, _, if_pos rfl⟩
      · exact .inl (mT hb)
    · by_cases hb : b = a
      · have z := (if_pos hb).symm.trans z
        cases z
        rw [hb]
        exact ⟨ha, by rw [List.length_map]; exact hl, vs, _, rv, ha⟩
      · have z := (if_neg hb).symm.trans z
        by_cases hb2 : b ∈ cs.map (·.2)
        · have z := (if_pos hb2).symm.trans z
          cases z
          obtain ⟨p, hp, rfl⟩ := mT hb2
          exact tabs p hp
        · have z := (if_neg hb2).symm.trans z
          cases z
/-- the law's call, from its run where no repr is under way -/
theorem start_run (ka : K.In s1.heap) (gl : s1.heap.Ns mainGlobals mg) (bt : s1.heap.Ns builtinsNs mb) (bb : ∀ x : Str, x ≠ "__name__" → mb x = bootBuiltins x) (lim : s1.heap.NoLimit) (ng : s1.gens = #[])
    (tabs : ∀ p ∈ cs, s1.heap.get? p.2 = some { cls := .none, data := .fields #[] }) (ntK : ∀ p ∈ cs, K.lookup p.2 = none) (cod : ∀ p ∈ cs, PySem.W.CodeHd s1.heap p.1 p.2)
    (bmain : ∃ (bm : Addr) (ob : Obj), mg "__builtins__" = some (.ref bm) ∧ bm ≠ builtinsNs ∧ s1.heap.get? bm = some ob ∧ ob.cls = .type "module" ∧ ob.dict = some builtinsNs ∧ ob.data = .plain)
    (ha : s1.heap.get? a = some { cls := .type "list", data := .seq vs.toArray }) (hi : IntsAre vs ns) (hl : ns.length ≤ sizeLine)
    (run : ∀ (base : Heap) (H : Hp), K.In base → base.Ns mainGlobals mg → (∀ p ∈ cs, TabB base mg p.1 p.2) → (∀ p ∈ cs, H p.2 = some (.tbl #[])) → SqL K H a (ns.map V.int) → Env0 P w K mg base callerA [] s1 H →
      codeAny (model P w) callerA (.call (.ref fa) ⟨[.ref a], []⟩) (CR CX [] P w H s1 (fun v _ => v = .bl true) fun _ _ _ => False) s1)
    (no : ∀ H e s', CX [] H s1 (fun _ _ _ => False) e s' → False) :
    codeAny (model P w) callerA (.call (.ref fa) ⟨[.ref a], []⟩) (fun r s' => r = .ok (.ret (.bool true)) ∧ OldK s1.heap s'.heap ∧ s'.os = s1.os ∧ AllBare s'.gens) s1 := by
  obtain ⟨tr, H, B⟩ := begins (P := P) (w := w) ka tabs ntK ha hi hl
  -- the ground: what is not tracked
  have kept : ∀ {b : Addr} {o : Obj}, s1.heap.get? b = some o → (∀ vs n, o.data ≠ .seq vs n) → o.data ≠ .fields #[] → (PySem.W.hideAll s1.heap tr).get? b = some o := fun {b o} e h1 h2 => PySem.W.hideAll_get tr e fun hb => by
    obtain ⟨_, o', e', q⟩ := B.inn b hb
    rw [e] at e'
    cases e'
    rcases q with ⟨vs, n, q⟩ | q
    · exact h1 _ _ q
    · exact h2 q
  have kdict : ∀ {b : Addr} {m : Str → Option Value}, s1.heap.Ns b m → (PySem.W.hideAll s1.heap tr).Ns b m := fun {b m} ⟨o, es, ep, e, d, r⟩ => ⟨o, es, ep, kept e (fun vs n z => by rw [d] at z; cases z) (fun z => by rw [d] at z; cases z), d, r⟩
  have kb : K.In (PySem.W.hideAll s1.heap tr) := fun b o e => PySem.W.hideAll_get tr (ka b o e) fun hb => by
    rw [(B.inn b hb).1] at e
    cases e
  have md : L2.Mod K mg (PySem.W.hideAll s1.heap tr) := ⟨kb, kdict gl, ⟨mb, kdict bt, bb⟩, let ⟨mc, h1, h2⟩ := lim; ⟨mc, kdict h1, h2⟩⟩
  have tb : ∀ p ∈ cs, TabB (PySem.W.hideAll s1.heap tr) mg p.1 p.2 := fun p hp => by
    refine ⟨?_, ?_, fun z => ?_⟩
    · obtain ⟨o, us, file, tf, flags, tg, inF, text, tt, e1, r1, r2, rest⟩ := cod p hp
      obtain ⟨r3, _⟩ := id rest
      exact ⟨o, us, file, tf, flags, tg, inF, text, tt, kept e1 (fun vs n z => by rw [r2] at z; cases z) (fun z => by rw [r2] at z; cases z; simp at r3), r1, r2, rest⟩
    · obtain ⟨bm, ob, b1, b2, b3, b4, b5, b6⟩ := bmain
      refine ⟨bm, ob, b1, b2, fun q => ?_, fun q => ?_, kept b3 (fun vs n z => by rw [b6] at z; cases z) (fun z => by rw [b6] at z; cases z), b4, b5, b6⟩
      · obtain ⟨o, es, ep, e, d, _⟩ := gl
        rw [q, e] at b3
        cases b3
        rw [d] at b6
        cases b6
      · rw [q, tabs p hp] at b3
        cases b3
        cases b6
    · obtain ⟨o, es, ep, e, d, _⟩ := gl
      rw [z, tabs p hp] at e
      cases e
      cases d
  have e0 : Env0 P w K mg (PySem.W.hideAll s1.heap tr) callerA [] s1 H := by
    refine ⟨rfl, md, fun b o e => ⟨PySem.W.of_hideAll tr e, B.out b fun hb => ?_⟩, Nat.le_of_eq (PySem.W.hideAll_size _ _), trivial, fun b hb => (nomatch (show b ∈ ([] : List Addr) from hb)), B.hok, .of_eq ng⟩
    rw [PySem.W.hideAll_none tr hb] at e
    cases e
  refine codeAny_mono (run _ H kb (kdict gl) tb (fun p hp => (B.tab p hp).2) B.row e0) fun r s' h => ?_
  cases r with
  | error e => exact (no H e s' h).elim
  | ok fl =>
    cases fl with
    | next => exact False.elim h
    | brk => exact False.elim h
    | cont => exact False.elim h
    | ret u =>
      obtain ⟨v, H', hos, bare, un, hok', rv, ev⟩ := h
      have ev : v = .bl true := ev
      subst ev
      obtain rfl : u = Value.bool true := rv
      have same : ∀ b o, (¬ ∃ p ∈ cs, p.2 = b) → s1.heap.get? b = some o → s'.heap.get? b = some o := fun b o nb e => by
        by_cases hb : b ∈ tr
        · rcases B.two b hb with z | ⟨_, o1, u1, z⟩
          · exact absurd z nb
          · have q1 := (B.hok b _ z).1
            have q2 := (hok' b _ (un.frzs b o1 u1 z)).1
            rw [e] at q1
            cases q1
            exact q2
        · exact un.keep b o e (B.out b hb) (fun z => nomatch (show b ∈ ([] : List Addr) from z)) (by simp)
      have grew : ∀ p ∈ cs, ∃ more : Array Value, s'.heap.get? p.2 = some { cls := .none, data := .fields more } := fun p hp => by
        obtain ⟨more, z⟩ := un.tbls p.2 #[] (B.tab p hp).2
        exact ⟨_, hok' p.2 _ z⟩
      refine ⟨rfl, ⟨fun b o e => ?_, fun b o e => ?_⟩, hos, bare⟩
      · by_cases hb : ∃ p ∈ cs, p.2 = b
        · obtain ⟨p, hp, rfl⟩ := hb
          obtain ⟨more, hm⟩ := grew p hp
          rw [tabs p hp] at e
          cases e
          exact .inr (.inl ⟨((cod p hp).tab (tabs p hp)).isCodeTable, rfl, #[], more, rfl, by rw [Array.empty_append]; exact hm⟩)
        · exact .inl (same b o hb e)
      · by_cases hb : ∃ p ∈ cs, p.2 = b
        · obtain ⟨p, hp, rfl⟩ := hb
          obtain ⟨more, hm⟩ := grew p hp
          exact ⟨_, hm⟩
        · exact ⟨o, same b o hb e⟩
end
/-! ### defs that are run where no repr is under way -/
theorem deeper_guards (A : Around) (env : Env) : (A.deeper env).guards = A.guards := rfl
structure FnG (P : Program) (w : World) (K : PySem.W.Frag) (mg : Str → Option Value) (base : Heap) (k : Nat) (f : Addr) (fd : FuncData) (ps : List Str) (sp : Sp) : Prop where
  len : ∀ vs H Q E, sp vs H Q E → vs.length = ps.length
  run : ∀ (A : Around) (outer : List Env) (s : Shared) (H : Hp) (args : Args) (us : List Value) (vs : List V) (Q : VK) (E : XK), Room k A → A.guards = some [] → Env0 P w K mg base A outer s H → BindsTo s fd args (ps.zip us) → Vals vs us → sp vs H Q E →
    codeAny (model P w) A (.call (.ref f) args) (CR C8.CX0 outer P w H s Q E) s
section
variable {P : Program} {w : World} {K : PySem.W.Frag} {mg : Str → Option Value} {base : Heap}
theorem okG {x qual : Str} {st : Stmt} {f : Addr} {fd : FuncData} {N ps : List Str} {k : Nat} {sp : Sp} (F : Fun K x qual st f fd) (S : FnScope N ps (defScope st)) (len : ∀ vs H Q E, sp vs H Q E → vs.length = ps.length)
    (hbody : ∀ (cdv : Value) (A : Around) (outer : List Env) (s : Shared) (H : Hp) (vs : List V) (Q : VK) (E : XK), Room k (A.deeper (envOfC qual (defScope st) s.heap.objs.size f cdv)) → (A.deeper (envOfC qual (defScope st) s.heap.objs.size f cdv)).guards = some [] → sp vs H Q E →
      ∃ t, PSs (cxOf C8.CX0 P w K mg base N qual (defScope st) f cdv A outer s H E).nox (defBody st) t ∧ t { nx := fun _ H' => Q .non H', rt := Q } (L2.start N vs) H) : FnG P w K mg base (k + 1) f fd ps sp := by
  obtain ⟨oc, od, kV, doc, pm, an, cdv, ct, osl, rfl, lk, hcd⟩ := F.ex
  refine ⟨len, fun A outer s H args us vs Q E hr hgd e0 hb r h => run_ofS lk hcd S hr e0 hb r (len _ _ _ _ h) fun hr2 => ?_⟩
  obtain ⟨t, ht, q⟩ := hbody cdv A outer s H vs Q E hr2 hgd h
  exact ⟨t, ht.nox, q⟩
end
section
variable {X : Cx}
theorem pe_callG {k : Nat} {f : Addr} {fd : FuncData} {ps : List Str} {sp : Sp} {x : Str} {p pos : Pos} {e : Expr} {es : List Expr} {t : TA} (F : FnG X.prog X.w X.K X.mg X.base k f fd ps sp) (hr : Room k X.A) (hgd : X.A.guards = some []) (hg : Gl X x) (hm : X.mg x = some (.ref f)) (hk : PySem.W.keepIn X.K (.ref f) = true)
    (hb : Binds X.K fd ps []) (ha : PA X (e :: es) t) (hdb : (x == ("__debug__" : Str)) = false := by decide) (he : starEach (e :: es) X.env = (false, eval e X.env) :: starEach es X.env := by rfl)
    (hpl : (backTo pos (starEach es X.env)).any (·.1) = false := by rfl) : PE X (.Call (.Name x p) (e :: es) [] pos) (tCall sp [] C8.E0 t) := by
  refine ⟨fun pins s σ H Q I h => ?_⟩
  refine wpAny_Call_Name_kw (ld_glob I hg hm ?_ hdb)
  refine PySem.W.callWith_K (h₀ := X.base) I.ok.mod.kin hk (thn (ha.run pos pins s σ H _ I h) fun us s1 ⟨vs, H1, I1, r, q⟩ => ⟨I1.kIn, ?_⟩) he hpl
  have q : sp (vs ++ []) H1 Q C8.E0 := q
  rw [List.append_nil] at q
  have hl : us.length = ps.length := by rw [← r.length, F.len _ _ _ _ q]
  have hbt : BindsTo s1 fd ⟨us, []⟩ (ps.zip us) := by
    have z := hb s1 us I1.kIn (by rw [List.append_nil]; exact hl)
    rwa [List.append_nil] at z
  refine wpAny_call (codeAny_mono (F.run X.A X.stack s1 H1 ⟨us, []⟩ us vs Q C8.E0 hr hgd I1.env0 hbt r q) fun r' s' hq => ?_)
  cases r' with
  | error e => exact (show False from hq).elim
  | ok fl =>
    cases fl with
    | ret u => exact I1.after hq
    | next => exact False.elim hq
    | brk => exact False.elim hq
    | cont => exact False.elim hq
/-- repr of a list or tuple of data -/
def rRepr (K : PySem.W.Frag) : List V → Hp → VK → Prop := fun xs H Q => ∃ (a : Addr) (d : PyData), xs = [.ref a] ∧ Dp K H (.ref a) d ∧ d.showable = true ∧ d.hasDict = false ∧ d.depth ≤ 60 ∧ d.shown.length ≤ sizeLine ∧ Q (.str d.shown) H
theorem call_repr (hgd : X.A.guards = some []) (hu : X.A.units + 64 < cLine) : CallR X (.builtin "repr") (rRepr X.K) := by
  intro pins s σ H xs us Q I r h
  obtain ⟨a, d, rfl, hd, hs, hk, hdp, hz, q⟩ := h
  obtain rfl := Vals.ref1 r
  obtain ⟨as, rd⟩ := Dp.reads I d _ _ hd (show L2.RelV (V.ref a) (Value.ref a) from rfl)
  exact repr_of_reads' rd hs (fun z => by rw [hk] at z; cases z) hgd (by omega) (fun b o e => e) (fun h' u tk k => ⟨.str d.shown, H, I.kept (t' := tk) k, ⟨u, rfl⟩, q⟩) hz
end
/-! ### the walk's end -/
/-- what is known of the law at the head's heap -/
def LawAtG (l : PySem.W.OpenLaw) (w : World) (K : PySem.W.Frag) (k n : Nat) (x : Str) (mg : Str → Option Value) (fa : Addr) (h : Heap) : Prop :=
  ∃ (fd : FuncData) (cs : List (Addr × Addr)) (sp : Sp), (∀ p ∈ cs, h.get? p.2 = some { cls := .none, data := .fields #[] }) ∧ (∀ p ∈ cs, K.lookup p.2 = none) ∧ (∀ p ∈ cs, PySem.W.CodeHd h p.1 p.2) ∧ (∀ (s : Shared) (u : Value), BindsTo s fd ⟨[u], []⟩ [(x, u)]) ∧
    (∀ (H : Hp) (a : Addr) (ns : List Int), ns.length ≤ n → (∀ p ∈ cs, H p.2 = some (.tbl #[])) → SqL K H a (ns.map V.int) → sp [.ref a] H (fun v _ => v = .bl true) fun _ _ _ => False) ∧
    ∀ base : Heap, K.In base → base.Ns mainGlobals mg → (∀ p ∈ cs, TabB base mg p.1 p.2) → FnG l.prog w K mg base k fa fd [x] sp
theorem walk_ofG {l : PySem.W.OpenLaw} {n k : Nat} {q : Program} {loose : List Str} {XP : (Str → Option Value) → Heap → Prop} {YP : World → Heap → Prop} {d : DefRec} {K : Params → PySem.W.Frag} {x : Str}
    (hn : l.most = some n) (hn2 : n ≤ sizeLine) (hdf : d.params.defaults = []) (hr : Room k callerA) (hY : ∀ (w : World) (h : Heap), YP w h → (K w.params).In h)
    (F : ∀ (w : World) (mg : Str → Option Value) (fa : Addr) (h : Heap), YP w h → (K w.params).In h → h.Ns mainGlobals mg → mg d.name = some (.ref fa) → LawAtG l w (K w.params) k n x mg fa h) :
    PySem.W.WalkO q loose XP YP l.row.toRowW d [] (fun f vs => PySem.call f vs) := by
  refine Att.attach_callB hn hdf fun w s0 s1 mg mb fa o pm cd doc a vs ns G Y ho hd hcd hmg hobj hints hlen hbits hg => ?_
  have kx := hY w _ Y
  obtain ⟨fd, cs, sp, hT, nT, C, hb, hsp, hF⟩ := F w mg fa _ Y kx G.T.g hmg
  exact start_run (CX := C8.CX0) kx G.T.g G.T.b G.T.builtins G.T.nolimit hg hT nT C G.T.bmain hobj hints (Nat.le_trans hlen hn2)
    (fun base H kb nb tb htb hS e0 => (hF base kb nb tb).run callerA [] s1 H ⟨[.ref a], []⟩ [.ref a] [.ref a] _ _ hr rfl e0 (hb s1 (.ref a)) (.cons rfl .nil) (hsp H a ns hlen htb hS)) fun H e s' z => z
end Gd
set_option Elab.async false
set_option linter.all false
set_option maxRecDepth 100000
/-! Kw: f(k = v, ..), keywords alone -/
namespace Kw
open PySem PySem.Spec PyProof.Rows L2
theorem pe_callK0 {X : Cx} {CX : CXT} {k : Nat} {f : Addr} {fd : FuncData} {ps ks : List Str} {sp : Sp} {E : XK} {x : Str} {p pos : Pos} {kws : List Keyword} {tk : TA} {g : List Value → List Value → List Value} {gV : List V → List V → List V}
    (F : FnOk X.prog X.w X.K X.mg X.base CX k f fd ps sp) (hr : Room k X.A) (hg : Gl X x) (hm : X.mg x = some (.ref f)) (hk : PySem.W.keepIn X.K (.ref f) = true) (hb : KBinds X.K fd ps ks g gV) (hx : Passes CX X E) (hkw : PK X kws tk)
    (hall : (backToKw pos (keywordEach kws X.env)).all (·.1.isSome) = true := by rfl) (hks : (backToKw pos (keywordEach kws X.env)).filterMap (·.1) = ks := by rfl) (hdb : (x == ("__debug__" : Str)) = false := by decide)
    (hpl : ((backTo pos (starEach [] X.env)).any (·.1) || (backToKw pos (keywordEach kws X.env)).any (·.1.isNone)) = false := by rfl) : PE X (.Call (.Name x p) [] kws pos) (fun σ H Q => tk σ H fun zs H1 => sp (gV [] zs) H1 Q E) := by
  refine ⟨fun pins s σ H Q I h => ?_⟩
  refine wpAny_Call_Name_kw (ld_glob I hg hm ?_ hdb)
  refine PySem.W.callWith_KW0 (h₀ := X.base) I.ok.mod.kin hk hall (thn (hkw.run pos pins s σ H _ I h) fun ws s1 ⟨zs, H1, I1, rz, q⟩ => ⟨I1.kIn, ?_⟩) hpl
  rw [hks]
  exact run_fnk (us := []) (vs := []) F hr hb hx I1 .nil rz q
/-- one parameter, by place or by name -/
theorem kb1 {K : PySem.W.Frag} {fd : FuncData} {p : Str} (h0 : ∀ u : Value, bindArgs fd ⟨[u], []⟩ = pure [(p, u)]) (h1 : ∀ u : Value, bindArgs fd ⟨[], [(p, u)]⟩ = pure [(p, u)]) : KBinds K fd [p] [p] (fun us ws => us ++ ws) (fun vs zs => vs ++ zs) where
  to := fun s us ws _ hl => by
    match us, ws, hl with
    | [u], [], _ => exact .of_eq (h0 u)
    | [], [u], _ => exact .of_eq (h1 u)
    | [], [], hl => cases hl
    | _ :: _ :: _, _, hl => simp at hl
    | [_], _ :: _, hl => simp at hl
    | [], _ :: _ :: _, hl => simp at hl
  rel := fun r r' => r.append r'
end Kw
set_option Elab.async false
set_option linter.all false
set_option maxRecDepth 100000
namespace K10
open PySem L2
def top (i : Nat) : Stmt := PySem.Challenge.pw_entryhall_k10_sizes_and_capacities.main.body.getD i (.Pass ⟨0, 0, 0, 0⟩)
/-- a def of the text -/
structure Df (K : PySem.W.Frag) (mg : Str → Option Value) (name qual : Str) (st : Stmt) (ps : List Str) (f : Addr) (fd : FuncData) : Prop where
  F : Fun K name qual st f fd
  b : Binds K fd ps []
  g : mg name = some (.ref f)
/-- the built-ins stand as they are -/
structure Bl (mg : Str → Option Value) : Prop where
  isinstance : mg "isinstance" = none
  int : mg "int" = none
  bool : mg "bool" = none
  list : mg "list" = none
  range : mg "range" = none
  len : mg "len" = none
  min : mg "min" = none
  max : mg "max" = none
  sorted : mg "sorted" = none
  enumerate : mg "enumerate" = none
  repr : mg "repr" = none
section
variable {P : Program} {w : World} {K : PySem.W.Frag} {mg : Str → Option Value} {base : Heap}
theorem pInt {X : Cx} {pos : Pos} (hg : Gl X "int") (hm : X.mg "int" = none) : PE X (.Name "int" pos) (tC (.ty "int")) := pe_bltn (v := .ty "int") (u := .type "int") hg hm (by decide +kernel) rfl
theorem pBool {X : Cx} {pos : Pos} (hg : Gl X "bool") (hm : X.mg "bool" = none) : PE X (.Name "bool" pos) (tC (.ty "bool")) := pe_bltn (v := .ty "bool") (u := .type "bool") hg hm (by decide +kernel) rfl
end
theorem ixN_n {n j : Nat} (hj : j < n) : ixN n (j : Int) = some j := by
  unfold ixN
  rw [if_pos (by omega), if_pos (by omega)]
  simp
theorem iteNo {b : Bool} {p q : Prop} (h : b = false) (k : q) : if b = true then p else q := by
  subst h
  exact k
theorem iteYes {b : Bool} {p q : Prop} (h : b = true) (k : p) : if b = true then p else q := by
  subst h
  exact k
theorem upd_upd {H : Hp} {a : Addr} {x y : HO} : upd (upd H a x) a y = upd H a y := by
  funext b
  unfold upd
  split <;> rfl
/-! ### lists of ints as data -/
theorem dp_ints {K : PySem.W.Frag} {H : Hp} : ∀ gs : List Int, DpAll K H (gs.map V.int) (gs.map PyData.int)
  | [] => .nil
  | g :: gs => .cons (.int g) (dp_ints gs)
theorem can_ints : ∀ gs : List Int, PyData.canLayAll0 (gs.map PyData.int) = true
  | [] => by simp [PyData.canLayAll0]
  | g :: gs => by
    rw [List.map_cons, PyData.canLayAll0, can_ints gs]
    simp [PyData.canLay0]
theorem depth_ints : ∀ gs : List Int, PyData.depthAll (gs.map PyData.int) = 0
  | [] => by simp [PyData.depthAll]
  | g :: gs => by
    rw [List.map_cons, PyData.depthAll, depth_ints gs]
    simp [PyData.depth]
theorem shaped_ints (gs : List Int) : SeqAt.shaped (.list (gs.map PyData.int)) = true := by
  unfold SeqAt.shaped
  rw [PyData.canLay0, can_ints, PyData.depth, depth_ints]
  rfl
theorem eqv_nil : ∀ gs : List Int, PyData.eqv (.list (gs.map PyData.int)) (.list []) = gs.isEmpty
  | [] => by simp [PyData.eqv, PyData.eqvAll]
  | g :: gs => by simp [PyData.eqv, PyData.eqvAll]
/-! ### the law's draws -/
abbrev kRun : Key := .inr "run"
abbrev kGreat : Key := .inr "great"
abbrev kTurn : Key := .inr "turn"
def drK (r t : Int) (g : Addr) : List (Key × V) := [(kRun, .int r), (kGreat, .ref g), (kTurn, .int t)]
theorem nRG : ¬ (kRun = kGreat) := by decide +kernel
theorem nRT : ¬ (kRun = kTurn) := by decide +kernel
theorem nGR : ¬ (kGreat = kRun) := by decide +kernel
theorem nTR : ¬ (kTurn = kRun) := by decide +kernel
theorem nGT : ¬ (kGreat = kTurn) := by decide +kernel
theorem dr_run {r t : Int} {g : Addr} : valV (drK r t g) kRun = some (.int r) := by
  unfold drK valV
  rw [List.find?_cons, decide_eq_true rfl]
  rfl
theorem dr_great {r t : Int} {g : Addr} : valV (drK r t g) kGreat = some (.ref g) := by
  unfold drK valV
  rw [List.find?_cons, decide_eq_false nRG, List.find?_cons, decide_eq_true rfl]
  rfl
theorem dr_turn {r t : Int} {g : Addr} : valV (drK r t g) kTurn = some (.int t) := by
  unfold drK valV
  rw [List.find?_cons, decide_eq_false nRT, List.find?_cons, decide_eq_false nGT, List.find?_cons, decide_eq_true rfl]
  rfl
theorem put_run {r t z : Int} {g : Addr} : putK (drK r t g) kRun (.int z) = drK z t g := by
  unfold drK putK
  rw [if_pos (by simp)]
  simp only [List.map_cons, List.map_nil, if_true, if_neg nGR, if_neg nTR]
theorem put_turn {r t z : Int} {g : Addr} : putK (drK r t g) kTurn (.int z) = drK r z g := by
  unfold drK putK
  rw [if_pos (by simp)]
  simp only [List.map_cons, List.map_nil, if_true, if_neg nRT, if_neg nGT]
theorem dget_run {H : Hp} {d g : Addr} {r t : Int} (h : H d = some (.dK (drK r t g))) : DGet H d (.str "run") (some (.int r)) := by
  have := DGet.k (k := kRun) h
  rw [dr_run] at this
  exact this
theorem dget_great {H : Hp} {d g : Addr} {r t : Int} (h : H d = some (.dK (drK r t g))) : DGet H d (.str "great") (some (.ref g)) := by
  have := DGet.k (k := kGreat) h
  rw [dr_great] at this
  exact this
theorem dget_turn {H : Hp} {d g : Addr} {r t : Int} (h : H d = some (.dK (drK r t g))) : DGet H d (.str "turn") (some (.int t)) := by
  have := DGet.k (k := kTurn) h
  rw [dr_turn] at this
  exact this
theorem dput_run {H : Hp} {d g : Addr} {r t z : Int} (h : H d = some (.dK (drK r t g))) : DPut H d (.str "run") (.int z) (upd H d (.dK (drK z t g))) := by
  have := DPut.k (k := kRun) (v := .int z) h (by show 3 < sizeLine; decide)
  rw [put_run] at this
  exact this
theorem dput_turn {H : Hp} {d g : Addr} {r t z : Int} (h : H d = some (.dK (drK r t g))) : DPut H d (.str "turn") (.int z) (upd H d (.dK (drK r z g))) := by
  have := DPut.k (k := kTurn) (v := .int z) h (by show 3 < sizeLine; decide)
  rw [put_turn] at this
  exact this
/-- a remainder as a natural number -/
theorem fmod_nat (i : Int) {m : Int} (h : 0 < m) : ∃ n : Nat, i.fmod m = (n : Int) ∧ (n : Int) < m := by
  rw [Int.fmod_eq_emod_of_nonneg _ (by omega)]
  have h1 := Int.emod_nonneg i (show m ≠ 0 by omega)
  have h2 := Int.emod_lt_of_pos i h
  exact ⟨(i % m).toNat, by omega, by omega⟩
/-- a draw stands at d, its great ones at g -/
structure Draw (H : Hp) (d g : Addr) (r t : Int) (gs : List Int) : Prop where
  dc : H d = some (.dK (drK r t g))
  gl : H g = some (.lst (gs.map V.int))
  r0 : 0 ≤ r
  r1 : r < 2305843009213693951
/-- what a draw leaves -/
def Kept (H H' : Hp) (d g : Addr) : Prop := ∀ b o, H b = some o → b ≠ d → b ≠ g → H' b = some o
def DrawE (H : Hp) (d g : Addr) : Prop := ∃ r t gs, Draw H d g r t gs
section
variable {P : Program} {w : World} {K : PySem.W.Frag} {mg : Str → Option Value} {base : Heap}
abbrev sBegun : Stmt := top 33
abbrev sNext : Stmt := top 34
def spNext : Sp := fun vs H Q _ => ∃ (d g : Addr) (b : Nat), vs = [.ref d, .int (b : Int)] ∧ DrawE H d g ∧ 0 < b ∧ b < 2 ^ 62 ∧ ∀ (n : Nat) (H' : Hp), n < b → DrawE H' d g → Kept H H' d g → Q (.int (n : Int)) H'
theorem scNext : FnScope ["draw", "below", "great", "at", "found", "run"] ["draw", "below"] (defScope sNext) := ⟨rfl, rfl, rfl, by decide +kernel, rfl, by decide +kernel, by decide +kernel⟩
theorem ok_next {f : Addr} {fd : FuncData} (D : Df K mg "_law_next" "_law_next" sNext ["draw", "below"] f fd) (B : Bl mg) : FnOk P w K mg base CX0 1 f fd ["draw", "below"] spNext := by
  refine D.F.ok scNext (fun vs H Q E h => ?_) (fun cdv A outer s H vs Q E hr h => ?_)
  · obtain ⟨d, g, b, rfl, _⟩ := h
    rfl
  · obtain ⟨d, g, b, rfl, ⟨r, t, gs, dr⟩, b0, b1, k⟩ := h
    have hu := hu_of hr
    have hu64 := hr.units
    refine ⟨_, pss_cons (ps_asg (pe_tup (pa_cons (pe_op op_add (pe_dget hu (pv 0) pe_str (fun _ _ => rfl)) pe_int) (pa_cons (pe_dget hu (pv 0) pe_str (fun _ _ => rfl)) pa_nil))) (pg_tup rfl (pgs_cons (pg_sub (pv 0) pe_str (set_dict hu)) (pgs_cons (pg_name (i := 2) scNext.nd rfl (Or.inl rfl)) pgs_nil))))
      (pss_cons (ps_set (i := 3) scNext.nd rfl (Or.inl rfl) (pe_op op_modN (pe_dget hu (pv 0) pe_str (fun _ _ => rfl)) (pe_callB (call_max2 rfl) (by rfl) B.max (by decide +kernel) (pa_cons pe_int (pa_cons (pe_callB call_len_seq (by rfl) B.len PySem.boot_len (pa_cons (pv 2) pa_nil)) pa_nil)))))
      (pss_cons (ps_if (PW.pt (pw_and (pt_cmpR (op_neD hu64) (pv 2) (pe_lst pa_nil) (nomark _)) (pw_and1 (pt_cmpR op_gt (pe_ix ix_list (pv 2) (pv 3) (fun _ _ => rfl)) pe_int (nomark _)))))
        (pss_cons (ps_set (i := 4) scNext.nd rfl (Or.inl rfl) (pe_op op_modN (pe_ix ix_list (pv 2) (pv 3) (fun _ _ => rfl)) (pv 1)))
          (pss_cons (ps_asg (pe_op op_fdivW (pe_ix ix_list (pv 2) (pv 3) (fun _ _ => rfl)) (pv 1)) (pg_sub (pv 2) (pv 3) set_list (fun _ => rfl))) (pss_one (ps_ret (pv 4))))) pss_nil)
      (pss_cons (ps_set (i := 5) scNext.nd rfl (Or.inl rfl) (pe_op op_add (pe_op op_add (pe_op op_mul (pe_dget hu (pv 0) pe_str (fun _ _ => rfl)) pe_int) (pe_op op_mul pe_int (pe_dget hu (pv 0) pe_str (fun _ _ => rfl)))) pe_int))
      (pss_cons (ps_dput hu (pv 0) pe_str (pe_op op_modN (pv 5) pe_int) rfl)
      (pss_one (ps_ret (pe_op op_modN (pe_op op_fdivN (pe_dget hu (pv 0) pe_str (fun _ _ => rfl)) pe_int) (pv 1)))))))), ?_⟩
    -- draw['turn'], great = (draw['turn'] + 1, draw['great'])
    refine ⟨_, rfl, d, _, rfl, dget_turn dr.dc, _, _, rfl, rfl, _, rfl, d, _, rfl, dget_great dr.dc, (by show 2 ≤ sizeLine; decide), fun T hT => ?_⟩
    have ndT := ne_of_none dr.dc hT
    have ngT := ne_of_none dr.gl hT
    have ngd : g ≠ d := ne_of dr.gl dr.dc (by intro z; cases z)
    refine ⟨T, _, rfl, SqT.of upd_same, rfl, _, _, rfl, _, rfl, d, _, rfl, dput_turn (r := r) (t := t) (g := g) (by rw [upd_ne ndT]; exact dr.dc), _, _, rfl, rfl, ?_⟩
    have dr1 : Draw (upd (upd H T (.tup [.int (t + 1), .ref g])) d (.dK (drK r (t + 1) g))) d g r (t + 1) gs := ⟨upd_same, by rw [upd_ne ngd, upd_ne ngT]; exact dr.gl, dr.r0, dr.r1⟩
    have kp1 : Kept H (upd (upd H T (.tup [.int (t + 1), .ref g])) d (.dK (drK r (t + 1) g))) d g := fun c o e h1 h2 => by rw [upd_ne h1, upd_ne (ne_of_none e hT)]; exact e
    generalize hH1 : upd (upd H T (.tup [.int (t + 1), .ref g])) d (.dK (drK r (t + 1) g)) = H1 at dr1 kp1
    -- at = draw['turn'] % max(1, len(great))
    obtain ⟨j, ej, hj⟩ := fmod_nat (t + 1) (m := if ((gs.map V.int).length : Int) > 1 then ((gs.map V.int).length : Int) else 1) (by split <;> omega)
    refine ⟨_, rfl, d, _, rfl, dget_turn dr1.dc, _, rfl, g, _, rfl, .inl (SqL.of dr1.gl), _, _, rfl, _, _, rfl, rfl, (by show (if ((gs.map V.int).length : Int) > 1 then ((gs.map V.int).length : Int) else 1) ≠ 0; split <;> omega), ?_⟩
    dsimp only
    rw [ej]
    -- great != [] and great[at] > 0
    refine ⟨_, rfl, by show 0 ≤ sizeLine; decide, fun e he => ?_⟩
    have nde := ne_of_none dr1.dc he
    have nge := ne_of_none dr1.gl he
    have dr2 : Draw (upd H1 e (.lst [])) d g r (t + 1) gs := ⟨by rw [upd_ne nde]; exact dr1.dc, by rw [upd_ne nge]; exact dr1.gl, dr1.r0, dr1.r1⟩
    have kp2 : Kept H (upd H1 e (.lst [])) d g := fun c o h h1 h2 => by
      have z := kp1 c o h h1 h2
      rw [upd_ne (ne_of_none z he)]
      exact z
    refine ⟨_, _, .lst (SqL.of dr2.gl) (dp_ints gs), .lst (SqL.of upd_same) .nil, shaped_ints gs, (by decide +kernel), ?_⟩
    rw [eqv_nil]
    generalize hH2 : upd H1 e (.lst []) = H2 at dr2 kp2
    refine ⟨_, rfl, ?_⟩
    by_cases hc : gs ≠ [] ∧ ∃ y, gs[j]? = some y ∧ 0 < y
    · obtain ⟨hne, y, hy, y0⟩ := hc
      have hjl : j < gs.length := (List.getElem?_eq_some_iff.mp hy).1
      refine iteYes (by cases gs with | nil => exact absurd rfl hne | cons a b => rfl) ?_
      have hat : atI (gs.map V.int) (j : Int) = some (.int y) := atI_nat (by rw [List.getElem?_map, hy]; rfl)
      refine ⟨_, rfl, _, rfl, g, _, _, _, rfl, rfl, SqL.of dr2.gl, hat, _, _, rfl, rfl, _, rfl, iteYes (decide_eq_true y0) ?_⟩
      obtain ⟨n, en, hn⟩ := fmod_nat y (m := (b : Int)) (by omega)
      refine ⟨_, rfl, _, rfl, g, _, _, _, rfl, rfl, SqL.of dr2.gl, hat, _, rfl, _, _, rfl, rfl, (by show (b : Int) ≠ 0; omega), ?_⟩
      refine ⟨_, rfl, _, rfl, g, _, _, _, rfl, rfl, SqL.of dr2.gl, hat, _, rfl, _, _, rfl, rfl, wide_div (b := 62) (by omega) (by omega) (by decide) (by decide), ?_⟩
      refine ⟨_, rfl, _, rfl, g, _, _, _, rfl, rfl, dr2.gl, ixN_n (j := j) (by rw [List.length_map]; exact hjl), ?_⟩
      refine ⟨_, rfl, ?_⟩
      dsimp only
      rw [en]
      refine k n _ (by omega) ⟨r, t + 1, gs.set j (y / b), by rw [upd_ne ngd.symm]; exact dr2.dc, by rw [upd_same, List.map_set], dr2.r0, dr2.r1⟩ fun c o h h1 h2 => ?_
      rw [upd_ne h2]
      exact kp2 c o h h1 h2
    · have go : ∀ (A B : Prop), B → (gs ≠ [] → (∃ y, gs[j]? = some y ∧ ¬ 0 < y) → A) → if (!gs.isEmpty) = true then A else B := by
        intro A B hB hA
        cases hgs : gs with
        | nil => exact hB
        | cons a b =>
          rw [← hgs]
          refine iteYes (by rw [hgs]; rfl) (hA (by rw [hgs]; exact List.cons_ne_nil _ _) ?_)
          have hl : j < gs.length := by
            rw [List.length_map] at hj
            rw [hgs] at hj ⊢
            rw [List.length_cons] at hj ⊢
            split at hj <;> omega
          exact ⟨_, List.getElem?_eq_getElem hl, fun z => hc ⟨by rw [hgs]; exact List.cons_ne_nil _ _, _, List.getElem?_eq_getElem hl, z⟩⟩
      refine go _ _ ?_ ?_
      · refine iteNo rfl ?_
        have r0 := dr2.r0
        have r1 := dr2.r1
        refine ⟨_, rfl, d, _, rfl, dget_run dr2.dc, _, _, rfl, rfl, .inl ⟨by omega, by omega⟩, _, rfl, d, _, rfl, dget_turn dr2.dc, _, _, rfl, rfl, .inl ⟨by decide, by decide⟩, _, _, rfl, rfl, _, _, rfl, rfl, ?_⟩
        refine ⟨_, rfl, _, _, rfl, rfl, (by show (2305843009213693951 : Int) ≠ 0; decide), _, rfl, d, _, rfl, dput_run dr2.dc, ?_⟩
        obtain ⟨z, ez, hz⟩ := fmod_nat (r * 6364136223846793 + 1442695040888963 * (t + 1) + 11) (m := 2305843009213693951) (by decide)
        rw [ez]
        refine ⟨_, rfl, d, _, rfl, dget_run upd_same, _, _, rfl, rfl, ⟨by decide, by decide⟩, _, rfl, _, _, rfl, rfl, (by show (b : Int) ≠ 0; omega), ?_⟩
        obtain ⟨n, en, hn⟩ := fmod_nat ((z : Int).fdiv 32749) (m := (b : Int)) (by omega)
        dsimp only
        rw [en]
        refine k n _ (by omega) ⟨z, t + 1, gs, upd_same, by rw [upd_ne ngd]; exact dr2.gl, by omega, hz⟩ fun c o h h1 h2 => ?_
        rw [upd_ne h1]
        exact kp2 c o h h1 h2
      · rintro hne ⟨y, hy, y0⟩
        have hat : atI (gs.map V.int) (j : Int) = some (.int y) := atI_nat (by rw [List.getElem?_map, hy]; rfl)
        refine ⟨_, rfl, _, rfl, g, _, _, _, rfl, rfl, SqL.of dr2.gl, hat, _, _, rfl, rfl, _, rfl, iteNo (decide_eq_false y0) ?_⟩
        have r0 := dr2.r0
        have r1 := dr2.r1
        refine ⟨_, rfl, d, _, rfl, dget_run dr2.dc, _, _, rfl, rfl, .inl ⟨by omega, by omega⟩, _, rfl, d, _, rfl, dget_turn dr2.dc, _, _, rfl, rfl, .inl ⟨by decide, by decide⟩, _, _, rfl, rfl, _, _, rfl, rfl, ?_⟩
        refine ⟨_, rfl, _, _, rfl, rfl, (by show (2305843009213693951 : Int) ≠ 0; decide), _, rfl, d, _, rfl, dput_run dr2.dc, ?_⟩
        obtain ⟨z, ez, hz⟩ := fmod_nat (r * 6364136223846793 + 1442695040888963 * (t + 1) + 11) (m := 2305843009213693951) (by decide)
        rw [ez]
        refine ⟨_, rfl, d, _, rfl, dget_run upd_same, _, _, rfl, rfl, ⟨by decide, by decide⟩, _, rfl, _, _, rfl, rfl, (by show (b : Int) ≠ 0; omega), ?_⟩
        obtain ⟨n, en, hn⟩ := fmod_nat ((z : Int).fdiv 32749) (m := (b : Int)) (by omega)
        dsimp only
        rw [en]
        refine k n _ (by omega) ⟨z, t + 1, gs, upd_same, by rw [upd_ne ngd]; exact dr2.gl, by omega, hz⟩ fun c o h h1 h2 => ?_
        rw [upd_ne h1]
        exact kp2 c o h h1 h2
end
/-- for i, x in enumerate(a list) -/
theorem for_enumL {K : PySem.W.Frag} {a : Addr} {xs : List V} {g : TG} {tb : TS} {D : Ends} {σ : L2.St} {H : Hp} (Pv : Nat → L2.St → Hp → Prop) (h0 : Pv 0 σ H) (hl : ∀ i σ H, i ≤ xs.length → Pv i σ H → SqL K H a xs)
    (hs : ∀ i x T σ H, xs[i]? = some x → Pv i σ H → H T = none → g (.ref T) σ (upd H T (.tup [.int (i : Nat), x])) fun σ2 H2 => tb { D with nx := Pv (i + 1), ct := Pv (i + 1), bk := D.nx } σ2 H2) (hd : ∀ σ H, Pv xs.length σ H → D.nx σ H) :
    ∃ W : Nat → Nat → L2.St → Hp → Prop, (∃ m, W 0 m σ H) ∧ ∀ i m σ H, W i m σ H →
      ((Ite K a).stop i H ∧ D.nx σ H) ∨ ((Ite K a).go i H ∧ ∃ N : L2.St → Hp → Prop, (∀ σ' H', N σ' H' → ∃ m', m' < m ∧ W (i + 1) m' σ' H') ∧ ∀ x H', (Ite K a).yld i H x H' → g x σ H' fun σ2 H2 => tb { D with nx := N, ct := N, bk := D.nx } σ2 H2) := by
  refine ⟨fun i m σ H => m = xs.length - i ∧ i ≤ xs.length ∧ Pv i σ H, ⟨xs.length, by simp, Nat.zero_le _, h0⟩, ?_⟩
  rintro i m σ H ⟨rfl, hi, p⟩
  have q := hl i σ H hi p
  by_cases hlt : i < xs.length
  · refine .inr ⟨⟨xs, xs[i], q, by simp [hlt]⟩, Pv (i + 1), fun σ' H' p' => ⟨xs.length - (i + 1), by omega, rfl, hlt, p'⟩, fun x H' y => ?_⟩
    obtain ⟨T, x, rfl, hT, rfl, hx⟩ := y
    exact hs i x T σ H (hx xs q) p hT
  · have e : i = xs.length := by omega
    subst e
    exact .inl ⟨⟨xs, q, Nat.le_refl _⟩, hd σ H p⟩
section
variable {P : Program} {w : World} {K : PySem.W.Frag} {mg : Str → Option Value} {base : Heap}
theorem merge_dr {r t : Int} {g : Addr} : mergeK [] (drK r t g) = drK r t g := by
  unfold mergeK drK
  simp only [List.foldl_cons, List.foldl_nil]
  have e1 : putK ([] : List (Key × V)) kRun (.int r) = [(kRun, .int r)] := rfl
  have e2 : putK [(kRun, V.int r)] kGreat (.ref g) = [(kRun, .int r), (kGreat, .ref g)] := by
    unfold putK
    rw [if_neg (by simp; decide +kernel)]
    rfl
  have e3 : putK [(kRun, V.int r), (kGreat, .ref g)] kTurn (.int t) = [(kRun, .int r), (kGreat, .ref g), (kTurn, .int t)] := by
    unfold putK
    rw [if_neg (by simp; decide +kernel)]
    rfl
  rw [e1, e2, e3]
theorem same_new {H : Hp} {a : Addr} {o : HO} (h : H a = none) : Same H (upd H a o) := fun b u e => by
  rw [upd_ne (ne_of_none e h)]
  exact e
theorem int_at {ns : List Int} {i : Nat} {x : V} (h : (ns.map V.int)[i]? = some x) : ∃ z, x = V.int z ∧ ns[i]? = some z := by
  rw [List.getElem?_map] at h
  obtain ⟨z, hz, rfl⟩ := Option.map_eq_some_iff.mp h
  exact ⟨z, rfl, hz⟩
def spBegun (K : PySem.W.Frag) : Sp := fun vs H Q _ => ∃ (a : Addr) (ns : List Int), vs = [.ref a] ∧ SqL K H a (ns.map V.int) ∧ ns.length ≤ 63 ∧ ∀ d g H', DrawE H' d g → Same H H' → H d = none → H g = none → Q (.ref d) H'
theorem scBegun : FnScope ["script", "run", "k", "cell"] ["script"] (defScope sBegun) := ⟨rfl, rfl, rfl, by decide +kernel, rfl, by decide +kernel, by decide +kernel⟩
theorem ok_begun {f : Addr} {fd : FuncData} (D : Df K mg "_law_begun" "_law_begun" sBegun ["script"] f fd) (B : Bl mg) : FnOk P w K mg base CX0 1 f fd ["script"] (spBegun K) := by
  refine D.F.ok scBegun (fun vs H Q E h => ?_) (fun cdv A outer s H vs Q E hr h => ?_)
  · obtain ⟨a, ns, rfl, _⟩ := h
    rfl
  · obtain ⟨a, ns, rfl, hS, hlen, k⟩ := h
    refine ⟨_, pss_cons (ps_set (i := 1) scBegun.nd rfl (Or.inl rfl) (pe_op op_add pe_int (pe_op op_mul pe_int (pe_callB call_len_seq (by rfl) B.len PySem.boot_len (pa_cons (pv 0) pa_nil)))))
      (pss_cons (ps_for PassesOwn.never rfl (pi_enum (by rfl) B.enumerate (pa_cons (pv 0) pa_nil)) (pg_tup rfl (pgs_cons (pg_name (i := 2) scBegun.nd rfl (Or.inl rfl)) (pgs_cons (pg_name (i := 3) scBegun.nd rfl (Or.inl rfl)) pgs_nil)))
        (pss_one (ps_set (i := 1) scBegun.nd rfl (Or.inl rfl) (pe_op op_modN (pe_op op_add (pe_op op_add (pe_op op_mul (pv 1) pe_int) (pv 3)) (pe_op op_mul pe_int (pv 2))) pe_int))))
      (pss_one (ps_ret (pe_disp (pps_cons pe_str (pv 1) (pps_cons pe_str
        (pe_lc (own := [("cell", 3)]) (g := gName 3) rfl scBegun.nd (pi_list (pv 0)) (blkOk_by (own := [("cell", 3)]) (N := ["script", "run", "k", "cell"]) (sc := defScope sBegun) (by decide +kernel)) (fun _ _ _ _ _ => pg_name (i := 3) scBegun.nd rfl (Or.inl rfl)) (fun _ _ _ _ _ => pts_one (pt_cmpR op_ge (pv 3) (pe_op op_pow pe_int pe_int) (nomark _))) (fun _ _ _ _ _ => pv 3))
        (pps_cons pe_str pe_int pps_nil))) (by rfl) (by rfl) (fun z => by cases z) (by decide))))), ?_⟩
    refine ⟨_, rfl, a, _, rfl, .inl hS, _, _, rfl, rfl, .inl ⟨by decide, by decide⟩, _, _, rfl, rfl, ?_⟩
    refine ⟨_, rfl, a, _, rfl, hS, for_enumL (K := K) (a := a) (xs := ns.map V.int) (fun i σ H' => ∃ (r : Int) (v2 v3 : Option V), σ = [some (.ref a), some (.int r), v2, v3] ∧ 0 ≤ r ∧ r < 2305843009213693951 ∧ Same H H') ?_ (fun i σ H' _ ⟨_, _, _, _, _, _, sm⟩ => sm.seq hS) ?_ ?_⟩
    · rw [List.length_map]
      exact ⟨_, _, _, rfl, by omega, by omega, Same.refl H⟩
    · rintro i x T σ H' hi ⟨r, v2, v3, rfl, r0, r1, sm⟩ hT
      obtain ⟨z, rfl, _⟩ := int_at hi
      refine ⟨T, _, rfl, SqT.of upd_same, rfl, _, _, rfl, _, _, rfl, rfl, ?_⟩
      refine ⟨_, rfl, _, _, rfl, rfl, .inl ⟨by omega, by omega⟩, _, rfl, _, _, rfl, rfl, _, rfl, _, _, rfl, rfl, .inl ⟨by decide, by decide⟩, _, _, rfl, rfl, _, _, rfl, rfl, (by show (2305843009213693951 : Int) ≠ 0; decide), ?_⟩
      obtain ⟨n, en, hn⟩ := fmod_nat (r * 998244353 + z + 104723 * (i : Nat)) (m := 2305843009213693951) (by decide)
      dsimp only
      rw [en]
      refine ⟨_, _, _, rfl, by omega, hn, fun b o e => ?_⟩
      have := sm b o e
      rw [upd_ne (ne_of_none this hT)]
      exact this
    · rintro σ H' ⟨r, v2, v3, rfl, r0, r1, sm⟩
      intro d hd
      have S1 := sm.seq hS
      have nad : ∀ (xs : List V), SqL K H' a xs → SqL K (upd H' d (.dK [])) a xs := fun xs h => (same_new hd).seq h
      refine ⟨_, rfl, _, rfl, a, rfl, ⟨_, nad _ S1⟩, fun g hg => ?_⟩
      have ngd : d ≠ g := fun e => by
        rw [← e, upd_same] at hg
        cases hg
      have hg0 : H' g = none := by rwa [upd_ne ngd.symm] at hg
      refine lc_list (K := K) (a := a) (xs := ns.map V.int) (fun i H2 => ∃ acc : List Int, H2 = upd (upd H' d (.dK [])) g (.lst (acc.map V.int)) ∧ acc.length ≤ i) ⟨[], rfl, Nat.le_refl _⟩ ?_ ?_ ?_
      · rintro i H2 _ ⟨acc, rfl, _⟩
        exact (same_new hg).seq (nad _ S1)
      · rintro i x H2 hi ⟨acc, rfl, hl⟩
        obtain ⟨z, rfl, hz⟩ := int_at hi
        have hil : i < ns.length := (List.getElem?_eq_some_iff.mp hz).1
        refine ⟨rfl, _, rfl, _, _, rfl, rfl, ⟨by decide, by decide, by decide⟩, _, _, rfl, rfl, _, rfl, ?_⟩
        refine ite2 (fun _ => ?_) (fun _ => ?_)
        · refine ⟨_, rfl, acc.map V.int, upd_same, by rw [List.length_map]; exact small1000 (by omega), acc ++ [z], ?_, by rw [List.length_append]; show acc.length + 1 ≤ _; omega⟩
          rw [upd_upd, List.map_append]
          rfl
        · exact ⟨acc, rfl, by omega⟩
      · rintro H2 ⟨acc, rfl, hl⟩
        refine ⟨by rw [upd_ne ngd, upd_same], drK r 0 g, rfl, (by show 3 ≤ 15; decide), ?_⟩
        rw [merge_dr]
        refine k d g _ ⟨r, 0, acc, upd_same, by rw [upd_ne ngd.symm, upd_same], r0, r1⟩ (fun b o e => ?_) (sm.free hd) (sm.free hg0)
        have := sm b o e
        rw [upd_ne (ne_of_none this hd), upd_ne (ne_of_none this hg0), upd_ne (ne_of_none this hd)]
        exact this
end
end K10
set_option Elab.async false
set_option linter.all false
set_option maxRecDepth 100000
namespace K10
open PySem L2
/-! ### any thing that the law hands in -/
inductive Odd (H : Hp) : V → Prop
  | int (n : Int) : Odd H (.int n)
  | bl (b : Bool) : Odd H (.bl b)
  | non : Odd H .non
  | str (x : Str) : Odd H (.str x)
  | tup {a : Addr} {xs : List V} (h : H a = some (.tup xs)) : Odd H (.ref a)
  | lst {a : Addr} {xs : List V} (h : H a = some (.lst xs)) : Odd H (.ref a)
  | dk {a : Addr} {kvs : List (Key × V)} (h : H a = some (.dK kvs)) : Odd H (.ref a)
theorem Odd.same {H H' : Hp} {v : V} (h : Odd H v) (s : Same H H') : Odd H' v := by
  cases h with
  | int n => exact .int n
  | bl b => exact .bl b
  | non => exact .non
  | str x => exact .str x
  | tup h => exact .tup (s _ _ h)
  | lst h => exact .lst (s _ _ h)
  | dk h => exact .dk (s _ _ h)
/-- is it a whole number -/
def wh : V → Option Int
  | .int n => some n
  | _ => none
def isBl : V → Bool
  | .bl _ => true
  | _ => false
abbrev sWhole : Stmt := top 18
abbrev sBetween : Stmt := top 19
abbrev sSize : Stmt := top 26
abbrev sNeedSize : Stmt := top 27
abbrev sNeedNumber : Stmt := top 28
abbrev sCap : Stmt := top 29
abbrev sSizeFor : Stmt := top 30
abbrev sGrowth : Stmt := top 31
section
variable {P : Program} {w : World} {K : PySem.W.Frag} {mg : Str → Option Value} {base : Heap}
/-- isinstance(v, int), isinstance(v, bool) -/
theorem odd_ty {H : Hp} {v : V} (h : Odd H v) : ∃ t : String, TyX K H v (.type t) ∧ PySem.W.kitOne K (.type t) (.type "int") = some ((wh v).isSome || isBl v) ∧ PySem.W.kitOne K (.type t) (.type "bool") = some (isBl v) := by
  cases h with
  | int n => exact ⟨"int", .base (.int _), kit_ty (r := true) (by decide +kernel), kit_ty (r := false) (by decide +kernel)⟩
  | bl b => exact ⟨"bool", .base (.bl _), kit_ty (r := true) (by decide +kernel), kit_ty (r := true) (by decide +kernel)⟩
  | non => exact ⟨"NoneType", .base .non, kit_ty (r := false) (by decide +kernel), kit_ty (r := false) (by decide +kernel)⟩
  | str x => exact ⟨"str", .base (.str _), kit_ty (r := false) (by decide +kernel), kit_ty (r := false) (by decide +kernel)⟩
  | tup h => exact ⟨"tuple", .base (.tup h), kit_ty (r := false) (by decide +kernel), kit_ty (r := false) (by decide +kernel)⟩
  | lst h => exact ⟨"list", .base (.lst h), kit_ty (r := false) (by decide +kernel), kit_ty (r := false) (by decide +kernel)⟩
  | dk h => exact ⟨"dict", .base (.dK h), kit_ty (r := false) (by decide +kernel), kit_ty (r := false) (by decide +kernel)⟩
def spWhole : Sp := fun vs H Q _ => ∃ v : V, vs = [v] ∧ Odd H v ∧ Q (.bl (wh v).isSome) H
theorem scWhole : FnScope ["thing"] ["thing"] (defScope sWhole) := ⟨rfl, rfl, rfl, by decide +kernel, rfl, by decide +kernel, by decide +kernel⟩
theorem ok_whole {f : Addr} {fd : FuncData} (D : Df K mg "is_whole" "is_whole" sWhole ["thing"] f fd) (T : Bl mg) : FnOk P w K mg base CX0 1 f fd ["thing"] spWhole := by
  refine D.F.ok scWhole (fun vs H Q E h => ?_) (fun cdv A outer s H vs Q E hr h => ?_)
  · obtain ⟨n, rfl, _⟩ := h
    rfl
  · obtain ⟨v, rfl, o, k⟩ := h
    obtain ⟨t, ty, e1, e2⟩ := odd_ty (K := K) o
    refine ⟨_, pss_one (ps_ret (pe_and (pe_callB call_isi (by rfl) T.isinstance (by decide +kernel) (pa_cons (pv 0) (pa_cons (pInt (by rfl) T.int) pa_nil)))
      (pe_one (pe_not (pe_callB call_isi (by rfl) T.isinstance (by decide +kernel) (pa_cons (pv 0) (pa_cons (pBool (by rfl) T.bool) pa_nil))))))), ?_⟩
    refine ⟨_, rfl, _, _, _, _, _, rfl, .ty _, ty, e1, _, rfl, ?_⟩
    refine ite2 (fun e => ?_) (fun e => ?_)
    · refine ⟨_, rfl, _, _, _, _, _, rfl, .ty _, ty, e2, _, rfl, ?_⟩
      have : (!isBl v) = (wh v).isSome := by
        cases v <;> first | rfl | simp_all [wh, isBl]
      rw [this]
      exact k
    · have : (wh v).isSome = false := by
        cases v <;> first | rfl | simp_all [wh, isBl]
      rw [this] at k
      exact k
/-- low <= v <= high -/
def btw (v : V) (lo hi : Int) : Bool := match wh v with
  | some n => decide (lo ≤ n) && decide (n ≤ hi)
  | none => false
def spBetween : Sp := fun vs H Q _ => ∃ (v : V) (lo hi : Int), vs = [v, .int lo, .int hi] ∧ Odd H v ∧ Q (.bl (btw v lo hi)) H
theorem scBetween : FnScope ["thing", "low", "high"] ["thing", "low", "high"] (defScope sBetween) := ⟨rfl, rfl, rfl, by decide +kernel, rfl, by decide +kernel, by decide +kernel⟩
theorem wh_some {v : V} (h : (wh v).isSome = true) : ∃ n, v = .int n := by
  cases v <;> first | exact ⟨_, rfl⟩ | cases h
theorem ok_between {f f1 : Addr} {fd fd1 : FuncData} (D : Df K mg "is_between" "is_between" sBetween ["thing", "low", "high"] f fd) (D1 : Df K mg "is_whole" "is_whole" sWhole ["thing"] f1 fd1) (G1 : FnOk P w K mg base CX0 1 f1 fd1 ["thing"] spWhole) :
    FnOk P w K mg base CX0 2 f fd ["thing", "low", "high"] spBetween := by
  refine D.F.ok scBetween (fun vs H Q E h => ?_) (fun cdv A outer s H vs Q E hr h => ?_)
  · obtain ⟨n, lo, hi, rfl, _⟩ := h
    rfl
  · obtain ⟨v, lo, hi, rfl, o, k⟩ := h
    refine ⟨_, pss_one (ps_ret (pe_and (pe_call G1 hr rfl D1.g D1.F.kp D1.b .nil pass0 (pa_cons (pv 0) pa_nil)) (pe_one (pe_chain op_le op_le (pv 1) (pv 0) (pv 2))))), ?_⟩
    refine ⟨_, rfl, _, rfl, o, _, rfl, ?_⟩
    refine ite2 (fun e => ?_) (fun e => ?_)
    · obtain ⟨n, rfl⟩ := wh_some e
      refine ⟨_, rfl, _, rfl, _, _, rfl, rfl, _, rfl, ?_⟩
      have k : Q (.bl (decide (lo ≤ n) && decide (n ≤ hi))) H := k
      refine ite2 (fun e => ?_) (fun e => ?_)
      · refine ⟨_, rfl, _, _, rfl, rfl, ?_⟩
        rw [e, Bool.true_and] at k
        exact k
      · rw [Bool.eq_false_iff.mpr e, Bool.false_and] at k
        exact k
    · have : btw v lo hi = false := by
        unfold btw
        cases hw : wh v with
        | none => rfl
        | some n =>
          rw [hw] at e
          exact absurd rfl e
      rw [this] at k
      exact k
end
end K10
set_option Elab.async false
set_option linter.all false
set_option maxRecDepth 100000
namespace K10
open PySem L2 Xo
/-- a class of errors, as this text has it -/
structure XK (P : Program) (w : World) (K : PySem.W.Frag) (mg : Str → Option Value) (base : Heap) (name : Str) (C : Addr) (fld : Str) : Prop where
  g : mg name = some (.ref C)
  T : XC K C
  no : PySem.W.findIn K (.ref C) fld = some none
  ini : ∃ (fI : Addr) (fd : FuncData), PySem.W.findIn K (.ref C) "__init__" = some (some (.ref fI)) ∧ PySem.W.typeIn K (.ref fI) = some (.type "function") ∧ Binds K fd ["self", fld] [] ∧ FnOk P w K mg base CX0 1 fI fd ["self", fld] (spXI K fld)
theorem XK.to {X : Cx} {name : Str} {C : Addr} {fld : Str} (h : XK X.prog X.w X.K X.mg X.base name C fld) : XI X C fld := ⟨h.T, h.no, h.ini⟩
/-- the way out by an error of the class at C -/
def OutE (C : Addr) (fld : Str) (H : Hp) (E : L2.XK) : Prop := ∀ (d : Addr) (y : V), H d = none → E (.ref C) (some d) (upd H d (.xd [(fld, y)]))
def sizesI : List Int := [8, 16, 32, 64, 128, 256, 512, 1024, 2048, 4096]
def sizesV : List V := [.int 8, .int 16, .int 32, .int 64, .int 128, .int 256, .int 512, .int 1024, .int 2048, .int 4096]
def TupK (K : PySem.W.Frag) (a : Addr) (xs : List V) : Prop := ∃ (o : Obj) (its : Array Value) (n : Nat), K.lookup a = some o ∧ o.cls = .type "tuple" ∧ o.data = .seq its n ∧ its.size ≤ sizeLine ∧ Vals xs its.toList
theorem in_ints {z : Int} {l : List Int} : inV (.int z) (l.map V.int) = decide (z ∈ l) := by
  unfold inV
  rw [Bool.eq_iff_iff, List.any_eq_true, decide_eq_true_iff]
  constructor
  · rintro ⟨x, hx, e⟩
    obtain ⟨y, hy, rfl⟩ := List.mem_map.mp hx
    have e : (y == z) = true := e
    rw [← beq_iff_eq.mp e]
    exact hy
  · intro h
    exact ⟨_, List.mem_map.mpr ⟨z, h, rfl⟩, show (z == z) = true from beq_self_eq_true z⟩
/-- is it a size -/
def isSz (v : V) : Bool := match wh v with
  | some n => decide (n ∈ sizesI)
  | none => false
theorem sz_some {v : V} (h : isSz v = true) : ∃ n, v = .int n ∧ n ∈ sizesI := by
  cases v with
  | int n => exact ⟨n, rfl, of_decide_eq_true h⟩
  | _ => exact absurd (show false = true from h) Bool.false_ne_true
section
variable {P : Program} {w : World} {K : PySem.W.Frag} {mg : Str → Option Value} {base : Heap}
def spSize : Sp := fun vs H Q _ => ∃ v : V, vs = [v] ∧ Odd H v ∧ Q (.bl (isSz v)) H
theorem scSize : FnScope ["thing"] ["thing"] (defScope sSize) := ⟨rfl, rfl, rfl, by decide +kernel, rfl, by decide +kernel, by decide +kernel⟩
theorem ok_size {f f1 aS : Addr} {fd fd1 : FuncData} (D : Df K mg "is_size" "is_size" sSize ["thing"] f fd) (D1 : Df K mg "is_whole" "is_whole" sWhole ["thing"] f1 fd1) (G1 : FnOk P w K mg base CX0 1 f1 fd1 ["thing"] spWhole)
    (mS : mg "SIZES" = some (.ref aS)) (tS : TupK K aS sizesV) : FnOk P w K mg base CX0 2 f fd ["thing"] spSize := by
  refine D.F.ok scSize (fun vs H Q E h => ?_) (fun cdv A outer s H vs Q E hr h => ?_)
  · obtain ⟨n, rfl, _⟩ := h
    rfl
  · obtain ⟨v, rfl, o, k⟩ := h
    refine ⟨_, pss_one (ps_ret (pe_and (pe_call G1 hr rfl D1.g D1.F.kp D1.b .nil pass0 (pa_cons (pv 0) pa_nil)) (pe_one (pe_cmpR op_in_seq (pv 0) (pe_glob (v := .ref aS) rfl mS rfl) (by rfl))))), ?_⟩
    refine ⟨_, rfl, _, rfl, o, _, rfl, ?_⟩
    refine ite2 (fun e => ?_) (fun e => ?_)
    · obtain ⟨n, rfl⟩ := wh_some e
      refine ⟨_, rfl, aS, sizesV, rfl, .inr (.inr tS), rfl, rfl, ?_⟩
      have k : Q (.bl (decide (n ∈ sizesI))) H := k
      rw [← in_ints] at k
      exact k
    · have : isSz v = false := by
        unfold isSz
        cases hw : wh v with
        | none => rfl
        | some n =>
          rw [hw] at e
          exact absurd rfl e
      rw [this] at k
      exact k
def spNeedSize (C : Addr) : Sp := fun vs H Q E => ∃ v : V, vs = [v] ∧ Odd H v ∧ (isSz v = true → Q .non H) ∧ (isSz v = false → OutE C "reason" H E)
theorem scNeedSize : FnScope ["size"] ["size"] (defScope sNeedSize) := ⟨rfl, rfl, rfl, by decide +kernel, rfl, by decide +kernel, by decide +kernel⟩
theorem ok_needSize {f f1 C : Addr} {fd fd1 : FuncData} (D : Df K mg "_need_size" "_need_size" sNeedSize ["size"] f fd) (D1 : Df K mg "is_size" "is_size" sSize ["thing"] f1 fd1) (G1 : FnOk P w K mg base CX0 2 f1 fd1 ["thing"] spSize) (x : XK P w K mg base "BadSize" C "reason") :
    FnOk P w K mg base (L2.CX P w) 3 f fd ["size"] (spNeedSize C) := by
  refine D.F.okX scNeedSize (fun vs H Q E h => ?_) (fun cdv A outer s H vs Q E hr h => ?_)
  · obtain ⟨n, rfl, _⟩ := h
    rfl
  · obtain ⟨v, rfl, o, k1, k2⟩ := h
    refine ⟨_, pss_one (ps_if (pt_not (pt_val (pe_call G1 hr rfl D1.g D1.F.kp D1.b .nil pass0 (pa_cons (pv 0) pa_nil)))) (pss_one (ps_raise rfl (takes_of rfl rfl rfl rfl) (pmk_x (XK.to x) hr rfl x.g (pa_cons pe_str pa_nil)))) pss_nil), ?_⟩
    refine ⟨_, rfl, _, rfl, o, _, rfl, ?_⟩
    refine ite2 (fun e => ?_) (fun e => ?_)
    · exact ⟨_, rfl, fun d hd => k2 (by simpa using e) d _ hd⟩
    · exact k1 (by simpa using e)
def spCap (C : Addr) : Sp := fun vs H Q E => ∃ v : V, vs = [v] ∧ Odd H v ∧ (∀ n, v = .int n → n ∈ sizesI → Q (.int (2 * n / 3)) H) ∧ (isSz v = false → OutE C "reason" H E)
theorem scCap : FnScope ["size"] ["size"] (defScope sCap) := ⟨rfl, rfl, rfl, by decide +kernel, rfl, by decide +kernel, by decide +kernel⟩
theorem ok_cap {f f1 C : Addr} {fd fd1 : FuncData} (D : Df K mg "capacity" "capacity" sCap ["size"] f fd) (D1 : Df K mg "_need_size" "_need_size" sNeedSize ["size"] f1 fd1) (G1 : FnOk P w K mg base (L2.CX P w) 3 f1 fd1 ["size"] (spNeedSize C)) :
    FnOk P w K mg base (L2.CX P w) 4 f fd ["size"] (spCap C) := by
  refine D.F.okX scCap (fun vs H Q E h => ?_) (fun cdv A outer s H vs Q E hr h => ?_)
  · obtain ⟨n, rfl, _⟩ := h
    rfl
  · obtain ⟨v, rfl, o, k1, k2⟩ := h
    refine ⟨_, pss_cons (ps_expr (pe_call (E := E) G1 hr rfl D1.g D1.F.kp D1.b .nil (passes_call (takes_of rfl rfl rfl rfl) fun _ _ _ _ z => z) (pa_cons (pv 0) pa_nil))) (pss_one (ps_ret (pe_op op_fdiv (pe_op op_mul pe_int (pv 0)) pe_int))), ?_⟩
    refine ⟨_, rfl, v, rfl, o, fun e => ?_, k2⟩
    obtain ⟨n, rfl, hn⟩ := sz_some e
    exact ⟨_, rfl, _, _, rfl, rfl, .inl ⟨by decide, by decide⟩, _, _, rfl, rfl, ⟨by decide, by decide⟩, k1 n rfl hn⟩
end
end K10
set_option Elab.async false
set_option linter.all false
set_option maxRecDepth 100000
namespace K10
open PySem L2 Xo
theorem passF {X : Cx} : Passes (L2.CX X.prog X.w) X (fun _ _ _ => False) := fun _ _ _ _ _ _ _ c => by
  obtain ⟨_, _, _, _, _, _, _, _, _, _, _, _, z⟩ := c
  exact z.elim
section
variable {P : Program} {w : World} {K : PySem.W.Frag} {mg : Str → Option Value} {base : Heap}
def spNeedNumber (C : Addr) : Sp := fun vs H Q E => ∃ (v : V) (most : Int), vs = [v, .int most] ∧ Odd H v ∧ (btw v 0 most = true → Q .non H) ∧ (btw v 0 most = false → OutE C "reason" H E)
theorem scNeedNumber : FnScope ["many", "most"] ["many", "most"] (defScope sNeedNumber) := ⟨rfl, rfl, rfl, by decide +kernel, rfl, by decide +kernel, by decide +kernel⟩
theorem ok_needNumber {f f1 C : Addr} {fd fd1 : FuncData} (D : Df K mg "_need_number" "_need_number" sNeedNumber ["many", "most"] f fd) (D1 : Df K mg "is_between" "is_between" sBetween ["thing", "low", "high"] f1 fd1) (G1 : FnOk P w K mg base CX0 2 f1 fd1 ["thing", "low", "high"] spBetween)
    (x : XK P w K mg base "BadSize" C "reason") : FnOk P w K mg base (L2.CX P w) 3 f fd ["many", "most"] (spNeedNumber C) := by
  refine D.F.okX scNeedNumber (fun vs H Q E h => ?_) (fun cdv A outer s H vs Q E hr h => ?_)
  · obtain ⟨n, m, rfl, _⟩ := h
    rfl
  · obtain ⟨v, most, rfl, o, k1, k2⟩ := h
    refine ⟨_, pss_one (ps_if (pt_not (pt_val (pe_call G1 hr rfl D1.g D1.F.kp D1.b .nil pass0 (pa_cons (pv 0) (pa_cons pe_int (pa_cons (pv 1) pa_nil)))))) (pss_one (ps_raise rfl (takes_of rfl rfl rfl rfl) (pmk_x (XK.to x) hr rfl x.g (pa_cons pe_str pa_nil)))) pss_nil), ?_⟩
    refine ⟨_, rfl, _, rfl, v, 0, most, rfl, o, _, rfl, ?_⟩
    refine ite2 (fun e => ?_) (fun e => ?_)
    · exact ⟨_, rfl, fun d hd => k2 (by simpa using e) d _ hd⟩
    · exact k1 (by simpa using e)
theorem btw_some {v : V} {lo hi : Int} (h : btw v lo hi = true) : ∃ n, v = .int n ∧ lo ≤ n ∧ n ≤ hi := by
  cases v with
  | int n =>
    have h : (decide (lo ≤ n) && decide (n ≤ hi)) = true := h
    rw [Bool.and_eq_true, decide_eq_true_iff, decide_eq_true_iff] at h
    exact ⟨n, rfl, h.1, h.2⟩
  | _ => exact absurd (show false = true from h) Bool.false_ne_true
theorem size_at {i : Nat} {x : V} (h : sizesV[i]? = some x) : ∃ y, x = V.int y ∧ sizesI[i]? = some y := int_at (ns := sizesI) h
theorem filt_more {t : Int → Bool} {l : List Int} {i : Nat} {y : Int} (h : l[i]? = some y) : (l.take (i + 1)).filter t = (l.take i).filter t ++ (if t y = true then [y] else []) := by
  rw [List.take_succ, h, List.filter_append]
  congr 1
  by_cases e : t y = true
  · rw [if_pos e]
    exact List.filter_cons_of_pos e
  · rw [if_neg e]
    exact List.filter_cons_of_neg e
/-- the least size that keeps a test -/
def Least (t : Int → Prop) (m : Int) : Prop := m ∈ sizesI ∧ t m ∧ ∀ y ∈ sizesI, t y → m ≤ y
def spSizeFor (C : Addr) : Sp := fun vs H Q E => ∃ v : V, vs = [v] ∧ Odd H v ∧ (∀ n, v = .int n → 0 ≤ n → n ≤ 2730 → ∀ m H', Same H H' → Least (fun y => n ≤ 2 * y / 3) m → Q (.int m) H') ∧ (btw v 0 2730 = false → OutE C "reason" H E)
theorem scSizeFor : FnScope ["many", "size"] ["many"] (defScope sSizeFor) := ⟨rfl, rfl, rfl, by decide +kernel, rfl, by decide +kernel, by decide +kernel⟩
theorem ok_sizeFor {f f1 f2 aS C : Addr} {fd fd1 fd2 : FuncData} {tM : Tok} (D : Df K mg "size_for" "size_for" sSizeFor ["many"] f fd) (B : Bl mg) (D1 : Df K mg "_need_number" "_need_number" sNeedNumber ["many", "most"] f1 fd1) (G1 : FnOk P w K mg base (L2.CX P w) 3 f1 fd1 ["many", "most"] (spNeedNumber C))
    (D2 : Df K mg "capacity" "capacity" sCap ["size"] f2 fd2) (G2 : FnOk P w K mg base (L2.CX P w) 4 f2 fd2 ["size"] (spCap C)) (mM : mg "MAX_SIZE" = some (.int 4096 tM)) (mS : mg "SIZES" = some (.ref aS)) (tS : TupK K aS sizesV) :
    FnOk P w K mg base (L2.CX P w) 5 f fd ["many"] (spSizeFor C) := by
  refine D.F.okX scSizeFor (fun vs H Q E h => ?_) (fun cdv A outer s H vs Q E hr h => ?_)
  · obtain ⟨n, rfl, _⟩ := h
    rfl
  · obtain ⟨v, rfl, o, k1, k2⟩ := h
    refine ⟨_, pss_cons (ps_expr (pe_call (E := E) G1 (hr.mono (by decide)) rfl D1.g D1.F.kp D1.b .nil (passes_call (takes_of rfl rfl rfl rfl) fun _ _ _ _ z => z) (pa_cons (pv 0) (pa_cons (pe_call (E := fun _ _ _ => False) G2 hr rfl D2.g D2.F.kp D2.b .nil passF (pa_cons (pe_glob (v := .int 4096) rfl mM ⟨_, rfl⟩) pa_nil)) pa_nil))))
      (pss_one (ps_ret (pe_callB (cr_min rfl) (by rfl) B.min (by decide +kernel) (pa_cons
        (pe_lc (own := [("size", 1)]) (g := gName 1) rfl scSizeFor.nd (pi_tup (pe_glob (v := .ref aS) rfl mS rfl)) (blkOk_by (own := [("size", 1)]) (N := ["many", "size"]) (sc := defScope sSizeFor) (by decide +kernel)) (fun _ _ _ _ _ => pg_name (i := 1) scSizeFor.nd rfl (Or.inl rfl))
          (fun _ _ _ _ _ => pts_one (pt_cmpR op_ge (pe_call (E := fun _ _ _ => False) G2 hr rfl D2.g D2.F.kp D2.b .nil passF (pa_cons (pv 1) pa_nil)) (pv 0) (nomark _))) (fun _ _ _ _ _ => pv 1)) pa_nil)))), ?_⟩
    refine ⟨_, rfl, .int 4096, rfl, .int _, fun n e hn => ?_, fun e => absurd e (by decide)⟩
    cases e
    refine ⟨v, 2730, rfl, o, fun e => ?_, k2⟩
    obtain ⟨n, rfl, n0, n1⟩ := btw_some e
    refine ⟨aS, rfl, ⟨_, .inr tS⟩, fun d hd => lc_tup (K := K) (a := aS) (xs := sizesV) (fun i H' => H' = upd H d (.lst (((sizesI.take i).filter fun y => decide (n ≤ 2 * y / 3)).map V.int))) rfl (fun i H' _ _ => .inr tS) ?_ ?_⟩
    · rintro i x H' hx rfl
      obtain ⟨y, rfl, hy⟩ := size_at hx
      have hm : y ∈ sizesI := List.mem_of_getElem? hy
      refine ⟨rfl, _, rfl, .int y, rfl, .int _, fun n' e hn' => ?_, fun e => ?_⟩
      · cases e
        refine ⟨_, rfl, _, _, rfl, rfl, _, rfl, ?_⟩
        have hf := filt_more (t := fun y => decide (n ≤ 2 * y / 3)) hy
        refine ite2 (fun e => ?_) (fun e => ?_)
        · refine ⟨_, rfl, _, upd_same, ?_, ?_⟩
          · rw [List.length_map]
            exact small1000 (Nat.le_trans (List.length_filter_le _ _) (Nat.le_trans (List.length_take_le' _ _) (by decide)))
          · rw [upd_upd, hf, if_pos e, List.map_append]
            rfl
        · show upd H d _ = upd H d _
          rw [hf, if_neg (by simpa using e), List.append_nil]
      · exact absurd (decide_eq_true hm) (by
          intro z
          have e : decide (y ∈ sizesI) = false := e
          rw [e] at z
          cases z)
    · rintro H' rfl
      have ef : (sizesI.take sizesV.length) = sizesI := rfl
      rw [ef]
      have h4 : (4096 : Int) ∈ sizesI.filter fun y => decide (n ≤ 2 * y / 3) := List.mem_filter.mpr ⟨by decide, decide_eq_true (by omega)⟩
      refine ⟨d, _, rfl, SqL.of upd_same, List.length_pos_of_mem h4, fun m hm hle => ?_⟩
      obtain ⟨m1, m2⟩ := List.mem_filter.mp hm
      exact k1 n rfl n0 n1 m _ (same_new hd) ⟨m1, of_decide_eq_true m2, fun y hy ty => hle y (List.mem_filter.mpr ⟨hy, decide_eq_true ty⟩)⟩
def spGrowth (C : Addr) : Sp := fun vs H Q E => ∃ v : V, vs = [v] ∧ Odd H v ∧ (∀ n, v = .int n → 0 ≤ n → n ≤ 1365 → ∀ m H', Same H H' → Least (fun y => 3 * n ≤ y) m → Q (.int m) H') ∧ (btw v 0 1365 = false → OutE C "reason" H E)
theorem scGrowth : FnScope ["live", "size"] ["live"] (defScope sGrowth) := ⟨rfl, rfl, rfl, by decide +kernel, rfl, by decide +kernel, by decide +kernel⟩
theorem ok_growth {f f1 aS C : Addr} {fd fd1 : FuncData} {tM : Tok} (D : Df K mg "growth" "growth" sGrowth ["live"] f fd) (B : Bl mg) (D1 : Df K mg "_need_number" "_need_number" sNeedNumber ["many", "most"] f1 fd1) (G1 : FnOk P w K mg base (L2.CX P w) 3 f1 fd1 ["many", "most"] (spNeedNumber C))
    (mM : mg "MAX_SIZE" = some (.int 4096 tM)) (mS : mg "SIZES" = some (.ref aS)) (tS : TupK K aS sizesV) : FnOk P w K mg base (L2.CX P w) 4 f fd ["live"] (spGrowth C) := by
  refine D.F.okX scGrowth (fun vs H Q E h => ?_) (fun cdv A outer s H vs Q E hr h => ?_)
  · obtain ⟨n, rfl, _⟩ := h
    rfl
  · obtain ⟨v, rfl, o, k1, k2⟩ := h
    refine ⟨_, pss_cons (ps_expr (pe_call (E := E) G1 hr rfl D1.g D1.F.kp D1.b .nil (passes_call (takes_of rfl rfl rfl rfl) fun _ _ _ _ z => z) (pa_cons (pv 0) (pa_cons (pe_op op_fdiv (pe_glob (v := .int 4096) rfl mM ⟨_, rfl⟩) pe_int) pa_nil))))
      (pss_one (ps_ret (pe_callB (cr_min rfl) (by rfl) B.min (by decide +kernel) (pa_cons
        (pe_lc (own := [("size", 1)]) (g := gName 1) rfl scGrowth.nd (pi_tup (pe_glob (v := .ref aS) rfl mS rfl)) (blkOk_by (own := [("size", 1)]) (N := ["live", "size"]) (sc := defScope sGrowth) (by decide +kernel)) (fun _ _ _ _ _ => pg_name (i := 1) scGrowth.nd rfl (Or.inl rfl))
          (fun _ _ _ _ _ => pts_one (pt_cmpR op_ge (pv 1) (pe_op op_mul pe_int (pv 0)) (nomark _))) (fun _ _ _ _ _ => pv 1)) pa_nil)))), ?_⟩
    refine ⟨_, rfl, _, _, rfl, rfl, ⟨by decide, by decide⟩, v, 1365, rfl, o, fun e => ?_, k2⟩
    obtain ⟨n, rfl, n0, n1⟩ := btw_some e
    refine ⟨aS, rfl, ⟨_, .inr tS⟩, fun d hd => lc_tup (K := K) (a := aS) (xs := sizesV) (fun i H' => H' = upd H d (.lst (((sizesI.take i).filter fun y => decide (3 * n ≤ y)).map V.int))) rfl (fun i H' _ _ => .inr tS) ?_ ?_⟩
    · rintro i x H' hx rfl
      obtain ⟨y, rfl, hy⟩ := size_at hx
      have hm : y ∈ sizesI := List.mem_of_getElem? hy
      refine ⟨rfl, _, rfl, _, rfl, _, _, rfl, rfl, .inl ⟨by decide, by decide⟩, _, _, rfl, rfl, _, rfl, ?_⟩
      have hf := filt_more (t := fun y => decide (3 * n ≤ y)) hy
      refine ite2 (fun e => ?_) (fun e => ?_)
      · refine ⟨_, rfl, _, upd_same, ?_, ?_⟩
        · rw [List.length_map]
          exact small1000 (Nat.le_trans (List.length_filter_le _ _) (Nat.le_trans (List.length_take_le' _ _) (by decide)))
        · rw [upd_upd, hf, if_pos e, List.map_append]
          rfl
      · show upd H d _ = upd H d _
        rw [hf, if_neg (by simpa using e), List.append_nil]
    · rintro H' rfl
      have ef : (sizesI.take sizesV.length) = sizesI := rfl
      rw [ef]
      have h4 : (4096 : Int) ∈ sizesI.filter fun y => decide (3 * n ≤ y) := List.mem_filter.mpr ⟨by decide, decide_eq_true (by omega)⟩
      refine ⟨d, _, rfl, SqL.of upd_same, List.length_pos_of_mem h4, fun m hm hle => ?_⟩
      obtain ⟨m1, m2⟩ := List.mem_filter.mp hm
      exact k1 n rfl n0 n1 m _ (same_new hd) ⟨m1, of_decide_eq_true m2, fun y hy ty => hle y (List.mem_filter.mpr ⟨hy, decide_eq_true ty⟩)⟩
end
end K10
set_option Elab.async false
set_option linter.all false
set_option maxRecDepth 100000
set_option maxHeartbeats 4000000
namespace K10
open PySem L2 Xo Lm LamX
abbrev sSaid : Stmt := top 35
abbrev NS : List Str := ["deed", "e", "found", "error", "some", "others", "kinds"]
/-- what the written part says of an error's class C, asked against the four, the nine, the built-ins and the three families -/
structure Row (K : PySem.W.Frag) (C C1 C2 C3 C4 T A F : Addr) (os : List Addr) (b0 b1 b2 b3 v l r : Bool) : Prop where
  k0 : PySem.W.kitOne K (.ref C) (.ref C1) = some b0
  k1 : PySem.W.kitOne K (.ref C) (.ref C2) = some b1
  k2 : PySem.W.kitOne K (.ref C) (.ref C3) = some b2
  k3 : PySem.W.kitOne K (.ref C) (.ref C4) = some b3
  ko : PySem.W.kitAny K (.ref C) (os.map Value.ref) = some false
  kv : PySem.W.kitOne K (.ref C) (.type "ValueError") = some v
  kl : PySem.W.kitOne K (.ref C) (.type "LookupError") = some l
  kr : PySem.W.kitOne K (.ref C) (.type "RuntimeError") = some r
  ex : PySem.W.exmAny K (.ref C) [.ref T, .ref A, .ref F] = some true
  xc : ExcC K C
  xC : XC K C
/-- the names of the errors -/
structure Nm (mg : Str → Option Value) (C1 C2 C3 C4 T A F : Addr) (o1 o2 o3 o4 o5 o6 o7 o8 o9 : Addr) : Prop where
  n1 : mg "BadCode" = some (.ref C1)
  n2 : mg "BadSize" = some (.ref C2)
  n3 : mg "NoEntry" = some (.ref C3)
  n4 : mg "TooLarge" = some (.ref C4)
  t : mg "TableError" = some (.ref T)
  a : mg "Absent" = some (.ref A)
  f : mg "Fault" = some (.ref F)
  m1 : mg "BadKey" = some (.ref o1)
  m2 : mg "BadLayout" = some (.ref o2)
  m3 : mg "BadPairs" = some (.ref o3)
  m4 : mg "BadPicture" = some (.ref o4)
  m5 : mg "BadStep" = some (.ref o5)
  m6 : mg "BadView" = some (.ref o6)
  m7 : mg "Missing" = some (.ref o7)
  m8 : mg "Empty" = some (.ref o8)
  m9 : mg "Locked" = some (.ref o9)
  ve : mg "ValueError" = none
  le : mg "LookupError" = none
  re : mg "RuntimeError" = none
  is : mg "isinstance" = none
/-- what the def answers to an error -/
inductive Says : Bool → Bool → Bool → Bool → Str → V → List V → Prop
  | code (f : Str) (y : V) : Says true false false false f y [.str "code"]
  | size (f : Str) (y : V) : Says false true false false f y [.str "size"]
  | entry (y : V) : Says false false true false "index" y [.str "entry", y]
  | large (y : V) : Says false false false true "limit" y [.str "large", y]
theorem xat_same {H H' : Hp} {a C d : Addr} {fs : List (Str × V)} (h : XAt H a C d fs) (s : Same H H') : XAt H' a C d fs := ⟨h.1.elim (fun z => .inl (s _ _ z)) fun z => .inr (s _ _ z), h.2.elim (fun z => .inl (s _ _ z)) fun z => .inr (s _ _ z)⟩
/-- an error of the class C with the field, the answer wished of it -/
def SaidE (K : PySem.W.Frag) (C1 C2 C3 C4 T A F : Addr) (os : List Addr) (Q : VK) : L2.XK := fun cls d H => ∃ (C dd : Addr) (fld : Str) (y : V) (b0 b1 b2 b3 : Bool) (ans : List V), cls = .ref C ∧ d = some dd ∧ H dd = some (.xd [(fld, y)]) ∧ PySem.W.findIn K (.ref C) fld = some none ∧
  Row K C C1 C2 C3 C4 T A F os b0 b1 b2 b3 (b0 || b1) b2 b3 ∧ Says b0 b1 b2 b3 fld y ans ∧ ∀ H' p, Same H H' → H' p = none → Q (.ref p) (upd H' p (.tup ans))
def TTsaid (K : PySem.W.Frag) (C1 C2 C3 C4 T A F : Addr) (os : List Addr) : (L2.XK → Hp → VK → Prop) → Hp → VK → Prop := fun tl H Q =>
  ∀ t0, H t0 = none → ∀ (E' : L2.XK) (Q' : VK), (∀ cls d H', SaidE K C1 C2 C3 C4 T A F os Q cls d H' → E' cls d H') → (∀ v H', (∀ p, H' p = none → Q (.ref p) (upd H' p (.lst [v]))) → Q' v H') → tl E' (upd H t0 (.tup [.non, .non])) Q'
theorem said_gives {X : Cx} {g C1 C2 C3 C4 T A F o1 o2 o3 o4 o5 o6 o7 o8 o9 : Addr} {cdg : Value} {q : Str} (hr : Room 1 X.A) (N : Nm X.mg C1 C2 C3 C4 T A F o1 o2 o3 o4 o5 o6 o7 o8 o9) :
    Gives X NS "_law_said" (defScope sSaid) g cdg (defBody sSaid) "deed" q (TTsaid X.K C1 C2 C3 C4 T A F [o1, o2, o3, o4, o5, o6, o7, o8, o9]) := by
  intro f c' s H Q tl act hc h
  have nd : NS.Nodup := by decide +kernel
  have hu64 := (hr.deeper (PyProof.Rows.envOfC "_law_said" (defScope sSaid) s.heap.objs.size g cdg)).units
  have lo : ∀ {x : Str}, (defScope sSaid).names.lookup x = some .local → (defScope sSaid).names.lookup x = some .local := id
  refine ⟨_, pss_cons (ps_asg (pe_tup (pa_cons pe_non (pa_cons pe_non pa_nil))) (pg_tup rfl (pgs_cons (pg_name (i := 1) nd rfl (Or.inl rfl)) (pgs_cons (pg_name (i := 2) nd rfl (Or.inl rfl)) pgs_nil))))
    (pss_cons (ps_try_keep (X := (gCx X NS "_law_said" (defScope sSaid) g cdg s H).nox) (i := 3) (j := 1) (C1 := T) (C2 := A) (C3 := F) (tb := fun W D σ H => ∃ Ech : L2.XK, σ[0]? = some (some (.ref f)) ∧ H c' = some (CodeO c' q) ∧ (∀ cls d H', Ech cls d H' → W cls d σ H') ∧ tl Ech H fun v H' => D.nx (σ.set 2 (some v)) H') rfl rfl rfl nd rfl rfl rfl rfl ⟨rfl, N.t, by decide +kernel⟩ ⟨rfl, N.a, by decide +kernel⟩ ⟨rfl, N.f, by decide +kernel⟩ (by decide +kernel) (by decide +kernel) (fun W pn xe tk _ => ?_))
    (pss_cons (ps_if (pt_cmp (pc_isN (pv 1))) (pss_one (ps_ret (pe_lst (pa_cons (pv 2) pa_nil)))) pss_nil)
    (pss_cons (ps_set (i := 4) nd rfl (Or.inl rfl) (pe_lst (pa_cons (pe_callB call_isX (by rfl) N.is (by decide +kernel) (pa_cons (pv 1) (pa_cons (pe_glob (v := .ref C1) rfl N.n1 rfl) pa_nil))) (pa_cons (pe_callB call_isX (by rfl) N.is (by decide +kernel) (pa_cons (pv 1) (pa_cons (pe_glob (v := .ref C2) rfl N.n2 rfl) pa_nil)))
      (pa_cons (pe_callB call_isX (by rfl) N.is (by decide +kernel) (pa_cons (pv 1) (pa_cons (pe_glob (v := .ref C3) rfl N.n3 rfl) pa_nil))) (pa_cons (pe_callB call_isX (by rfl) N.is (by decide +kernel) (pa_cons (pv 1) (pa_cons (pe_glob (v := .ref C4) rfl N.n4 rfl) pa_nil))) pa_nil))))))
    (pss_cons (ps_set (i := 5) nd rfl (Or.inl rfl) (pe_callB call_isXT (by rfl) N.is (by decide +kernel) (pa_cons (pv 1) (pa_cons (pe_tup (pa_cons (pe_glob (v := .ref o1) rfl N.m1 rfl) (pa_cons (pe_glob (v := .ref o2) rfl N.m2 rfl) (pa_cons (pe_glob (v := .ref o3) rfl N.m3 rfl) (pa_cons (pe_glob (v := .ref o4) rfl N.m4 rfl) (pa_cons (pe_glob (v := .ref o5) rfl N.m5 rfl) (pa_cons (pe_glob (v := .ref o6) rfl N.m6 rfl)
      (pa_cons (pe_glob (v := .ref o7) rfl N.m7 rfl) (pa_cons (pe_glob (v := .ref o8) rfl N.m8 rfl) (pa_cons (pe_glob (v := .ref o9) rfl N.m9 rfl) pa_nil)))))))))) pa_nil))))
    (pss_cons (ps_set (i := 6) nd rfl (Or.inl rfl) (pe_lst (pa_cons (pe_callB call_isX (by rfl) N.is (by decide +kernel) (pa_cons (pv 1) (pa_cons (pe_bltn (v := .ty "ValueError") (u := .type "ValueError") rfl N.ve (by decide +kernel) rfl) pa_nil))) (pa_cons (pe_callB call_isX (by rfl) N.is (by decide +kernel) (pa_cons (pv 1) (pa_cons (pe_bltn (v := .ty "LookupError") (u := .type "LookupError") rfl N.le (by decide +kernel) rfl) pa_nil)))
      (pa_cons (pe_callB call_isX (by rfl) N.is (by decide +kernel) (pa_cons (pv 1) (pa_cons (pe_bltn (v := .ty "RuntimeError") (u := .type "RuntimeError") rfl N.re (by decide +kernel) rfl) pa_nil))) pa_nil)))))
    (pss_cons (ps_if (PW.pt (pw_or (pt_cmpR op_ne (pe_bm PySem.F.plainAttrs_list PySem.F.slot_list_count PySem.F.type_list_count Sd.mt_countF (pv 4) (pa_cons pe_bl pa_nil)) pe_int (nomark _)) (pw_or (pt_val (pv 5)) (pw_or1 (pt_cmpR (op_neD hu64) (pv 6)
        (pe_lst (pa_cons (pe_or (pe_ix ix_list (pv 4) pe_int (fun _ _ => rfl)) (pe_one (pe_ix ix_list (pv 4) pe_int (fun _ _ => rfl)))) (pa_cons (pe_ix ix_list (pv 4) pe_int (fun _ _ => rfl)) (pa_cons (pe_ix ix_list (pv 4) pe_int (fun _ _ => rfl)) pa_nil)))) (nomark _))))))
      (pss_one (ps_ret (pe_tup (pa_cons pe_str pa_nil)))) pss_nil)
    (pss_cons (ps_if (PW.pt (pw_or (pt_val (pe_ix ix_list (pv 4) pe_int (fun _ _ => rfl))) (pw_or1 (pt_val (pe_ix ix_list (pv 4) pe_int (fun _ _ => rfl))))))
      (pss_one (ps_ret (pe_ifExp (pt_val (pe_ix ix_list (pv 4) pe_int (fun _ _ => rfl))) (pe_tup (pa_cons pe_str pa_nil)) (pe_tup (pa_cons pe_str pa_nil))))) pss_nil)
    (pss_one (ps_ret (pe_ifExp (pt_val (pe_ix ix_list (pv 4) pe_int (fun _ _ => rfl))) (pe_tup (pa_cons pe_str (pa_cons (pe_xfld (pv 1)) pa_nil))) (pe_tup (pa_cons pe_str (pa_cons (pe_xfld (pv 1)) pa_nil))))))))))))), ?_⟩
  · refine ⟨fun pins s' σ H' D I h' => ?_⟩
    obtain ⟨Ech, h1, h2, h3, h4⟩ := h'
    exact (pss_one (ps_set (i := 2) nd rfl (Or.inl rfl) (act W pn xe Ech _ _ tk))).run pins s' σ H' D I ⟨h1, h2, h3, h4⟩
  · refine ⟨by show 2 ≤ sizeLine; decide, fun t0 ht0 => ⟨t0, _, rfl, SqT.of upd_same, rfl, _, _, rfl, _, _, rfl, rfl, ?_⟩⟩
    have hc2 : upd H t0 (.tup [.non, .non]) c' = some (CodeO c' q) := by
      rw [upd_ne (ne_of_none hc ht0)]
      exact hc
    refine ⟨_, rfl, hc2, fun cls d H' z => z, h t0 ht0 _ _ (fun cls d H1 hE => ?_) fun v H1 hv => ?_⟩
    · obtain ⟨C, dd, fld, y, b0, b1, b2, b3, ans, rfl, rfl, hdd, hno, R, sy, k⟩ := hE
      refine ⟨R.ex, fun a ha => ?_⟩
      have nad : dd ≠ a := ne_of_none hdd ha
      have x2 : XAt (upd H1 a (xob a (.ref C) (some dd))) a C dd [(fld, y)] := ⟨.inr upd_same, .inr (by rw [upd_ne nad]; exact hdd)⟩
      have s2 : Same H1 (upd H1 a (xob a (.ref C) (some dd))) := same_new ha
      generalize upd H1 a (xob a (.ref C) (some dd)) = H2 at x2 s2
      refine ⟨_, rfl, _, rfl, iteNo (decide_eq_false (fun z => by cases z)) ?_⟩
      -- some
      refine ⟨_, rfl, a, C, dd, _, _, _, b0, rfl, x2, R.xc, .own _, R.k0, _, rfl, a, C, dd, _, _, _, b1, rfl, x2, R.xc, .own _, R.k1, _, rfl, a, C, dd, _, _, _, b2, rfl, x2, R.xc, .own _, R.k2, _, rfl, a, C, dd, _, _, _, b3, rfl, x2, R.xc, .own _, R.k3, by show 4 ≤ sizeLine; decide, fun t1 ht1 => ?_⟩
      have x3 := xat_same x2 (same_new (o := .lst [.bl b0, .bl b1, .bl b2, .bl b3]) ht1)
      have s3 := s2.trans (same_new (o := .lst [.bl b0, .bl b1, .bl b2, .bl b3]) ht1)
      have l3 : upd H2 t1 (.lst [.bl b0, .bl b1, .bl b2, .bl b3]) t1 = some (.lst [.bl b0, .bl b1, .bl b2, .bl b3]) := upd_same
      generalize upd H2 t1 (.lst [.bl b0, .bl b1, .bl b2, .bl b3]) = H3 at x3 s3 l3
      -- others
      refine ⟨_, rfl, by show 9 ≤ sizeLine; decide, fun tp htp => ?_⟩
      have y4 := same_new (o := .tup [.ref o1, .ref o2, .ref o3, .ref o4, .ref o5, .ref o6, .ref o7, .ref o8, .ref o9]) htp
      refine ⟨a, C, dd, _, tp, _, _, false, rfl, (xat_same x3 y4), R.xc, upd_same, .cons (.own _) (.cons (.own _) (.cons (.own _) (.cons (.own _) (.cons (.own _) (.cons (.own _) (.cons (.own _) (.cons (.own _) (.cons (.own _) .nil)))))))), R.ko, ?_⟩
      have x4 := (xat_same x3 y4)
      have s4 := s3.trans y4
      have l4 := y4 _ _ l3
      generalize upd H3 tp (.tup [.ref o1, .ref o2, .ref o3, .ref o4, .ref o5, .ref o6, .ref o7, .ref o8, .ref o9]) = H4 at x4 s4 l4
      -- kinds
      refine ⟨_, rfl, a, C, dd, _, _, _, _, rfl, x4, R.xc, .ty _, R.kv, _, rfl, a, C, dd, _, _, _, _, rfl, x4, R.xc, .ty _, R.kl, _, rfl, a, C, dd, _, _, _, _, rfl, x4, R.xc, .ty _, R.kr, by show 3 ≤ sizeLine; decide, fun t2 ht2 => ?_⟩
      have y5 := same_new (o := .lst [.bl (b0 || b1), .bl b2, .bl b3]) ht2
      have x5 := xat_same x4 y5
      have s5 := s4.trans y5
      have l5 := y5 _ _ l4
      have m5 : upd H4 t2 (.lst [.bl (b0 || b1), .bl b2, .bl b3]) t2 = some (.lst [.bl (b0 || b1), .bl b2, .bl b3]) := upd_same
      generalize upd H4 t2 (.lst [.bl (b0 || b1), .bl b2, .bl b3]) = H5 at x5 s5 l5 m5
      -- some.count(True) != 1
      refine ⟨_, rfl, .inl ⟨rfl, _, SqL.of l5⟩, t1, _, _, rfl, rfl, SqL.of l5, rfl, rfl, rfl, _, rfl, iteNo ?_ ?_⟩
      · cases sy <;> rfl
      -- others
      refine ⟨_, rfl, _, rfl, iteNo rfl ?_⟩
      -- kinds != [..]
      cases sy
      · refine ⟨_, rfl, _, rfl, t1, _, _, _, rfl, rfl, SqL.of l5, rfl, true, rfl, iteT ?_⟩
        refine ⟨_, rfl, t1, _, _, _, rfl, rfl, SqL.of l5, rfl, _, rfl, t1, _, _, _, rfl, rfl, SqL.of l5, rfl, by show 3 ≤ sizeLine; decide, fun t3 ht3 => ?_⟩
        have y6 := same_new (o := .lst [.bl true, .bl false, .bl false]) ht3
        have x6 := xat_same x5 y6
        have s6 := s5.trans y6
        have l6 := y6 _ _ l5
        refine ⟨_, _, .lst (SqL.of (y6 _ _ m5)) (.cons (.bl _) (.cons (.bl _) (.cons (.bl _) .nil))), .lst (SqL.of upd_same) (.cons (.bl _) (.cons (.bl _) (.cons (.bl _) .nil))), by decide +kernel, by decide +kernel, _, rfl, iteNo (by decide +kernel) ?_⟩
        refine ⟨_, rfl, t1, _, _, _, rfl, rfl, SqL.of l6, rfl, true, rfl, iteT (iteT ⟨_, rfl, t1, _, _, _, rfl, rfl, SqL.of l6, rfl, true, rfl, iteT ⟨by show 1 ≤ sizeLine; decide, fun p hp => k _ p s6 hp⟩⟩)⟩
      · refine ⟨_, rfl, _, rfl, t1, _, _, _, rfl, rfl, SqL.of l5, rfl, false, rfl, iteF ⟨_, rfl, t1, _, _, _, rfl, rfl, SqL.of l5, rfl, ?_⟩⟩
        refine ⟨_, rfl, t1, _, _, _, rfl, rfl, SqL.of l5, rfl, _, rfl, t1, _, _, _, rfl, rfl, SqL.of l5, rfl, by show 3 ≤ sizeLine; decide, fun t3 ht3 => ?_⟩
        have y6 := same_new (o := .lst [.bl true, .bl false, .bl false]) ht3
        have x6 := xat_same x5 y6
        have s6 := s5.trans y6
        have l6 := y6 _ _ l5
        refine ⟨_, _, .lst (SqL.of (y6 _ _ m5)) (.cons (.bl _) (.cons (.bl _) (.cons (.bl _) .nil))), .lst (SqL.of upd_same) (.cons (.bl _) (.cons (.bl _) (.cons (.bl _) .nil))), by decide +kernel, by decide +kernel, _, rfl, iteNo (by decide +kernel) ?_⟩
        refine ⟨_, rfl, t1, _, _, _, rfl, rfl, SqL.of l6, rfl, false, rfl, iteF ⟨_, rfl, t1, _, _, _, rfl, rfl, SqL.of l6, rfl, true, rfl, iteT ⟨_, rfl, t1, _, _, _, rfl, rfl, SqL.of l6, rfl, false, rfl, iteF ⟨by show 1 ≤ sizeLine; decide, fun p hp => k _ p s6 hp⟩⟩⟩⟩
      · refine ⟨_, rfl, _, rfl, t1, _, _, _, rfl, rfl, SqL.of l5, rfl, false, rfl, iteF ⟨_, rfl, t1, _, _, _, rfl, rfl, SqL.of l5, rfl, ?_⟩⟩
        refine ⟨_, rfl, t1, _, _, _, rfl, rfl, SqL.of l5, rfl, _, rfl, t1, _, _, _, rfl, rfl, SqL.of l5, rfl, by show 3 ≤ sizeLine; decide, fun t3 ht3 => ?_⟩
        have y6 := same_new (o := .lst [.bl false, .bl true, .bl false]) ht3
        have x6 := xat_same x5 y6
        have s6 := s5.trans y6
        have l6 := y6 _ _ l5
        refine ⟨_, _, .lst (SqL.of (y6 _ _ m5)) (.cons (.bl _) (.cons (.bl _) (.cons (.bl _) .nil))), .lst (SqL.of upd_same) (.cons (.bl _) (.cons (.bl _) (.cons (.bl _) .nil))), by decide +kernel, by decide +kernel, _, rfl, iteNo (by decide +kernel) ?_⟩
        refine ⟨_, rfl, t1, _, _, _, rfl, rfl, SqL.of l6, rfl, false, rfl, iteF ⟨_, rfl, t1, _, _, _, rfl, rfl, SqL.of l6, rfl, false, rfl, iteF ⟨_, rfl, t1, _, _, _, rfl, rfl, SqL.of l6, rfl, true, rfl, iteT ⟨_, rfl, a, C, dd, _, _, rfl, x6, R.xC, hno, by simp [List.lookup], by show 2 ≤ sizeLine; decide, fun p hp => k _ p s6 hp⟩⟩⟩⟩
      · refine ⟨_, rfl, _, rfl, t1, _, _, _, rfl, rfl, SqL.of l5, rfl, false, rfl, iteF ⟨_, rfl, t1, _, _, _, rfl, rfl, SqL.of l5, rfl, ?_⟩⟩
        refine ⟨_, rfl, t1, _, _, _, rfl, rfl, SqL.of l5, rfl, _, rfl, t1, _, _, _, rfl, rfl, SqL.of l5, rfl, by show 3 ≤ sizeLine; decide, fun t3 ht3 => ?_⟩
        have y6 := same_new (o := .lst [.bl false, .bl false, .bl true]) ht3
        have x6 := xat_same x5 y6
        have s6 := s5.trans y6
        have l6 := y6 _ _ l5
        refine ⟨_, _, .lst (SqL.of (y6 _ _ m5)) (.cons (.bl _) (.cons (.bl _) (.cons (.bl _) .nil))), .lst (SqL.of upd_same) (.cons (.bl _) (.cons (.bl _) (.cons (.bl _) .nil))), by decide +kernel, by decide +kernel, _, rfl, iteNo (by decide +kernel) ?_⟩
        refine ⟨_, rfl, t1, _, _, _, rfl, rfl, SqL.of l6, rfl, false, rfl, iteF ⟨_, rfl, t1, _, _, _, rfl, rfl, SqL.of l6, rfl, false, rfl, iteF ⟨_, rfl, t1, _, _, _, rfl, rfl, SqL.of l6, rfl, false, rfl, iteF ⟨_, rfl, a, C, dd, _, _, rfl, x6, R.xC, hno, by simp [List.lookup], by show 2 ≤ sizeLine; decide, fun p hp => k _ p s6 hp⟩⟩⟩⟩
    · exact ⟨_, rfl, _, rfl, iteYes (decide_eq_true rfl) ⟨_, rfl, by show 1 ≤ sizeLine; decide, hv⟩⟩
end K10
set_option Elab.async false
set_option linter.all false
set_option maxRecDepth 100000
set_option maxHeartbeats 4000000
namespace K10
open PySem L2 Xo Lm LamX
abbrev sSizes : Stmt := top 36
abbrev sOdd : Stmt := top 37
abbrev sSR : Stmt := top 38
abbrev sNR : Stmt := top 39
abbrev sLaw : Stmt := top 40
theorem Odd.ext {H H' : Hp} {v : V} (h : Odd H v) (s : ExtN H H') : Odd H' v := by
  cases h with
  | int n => exact .int n
  | bl b => exact .bl b
  | non => exact .non
  | str x => exact .str x
  | tup h => exact .tup (s _ _ h fun ps z => by cases z)
  | lst h => exact .lst (s _ _ h fun ps z => by cases z)
  | dk h => exact .dk (s _ _ h fun ps z => by cases z)
/-- a def of the text, its code object at c -/
structure Dc (K : PySem.W.Frag) (mg : Str → Option Value) (name : Str) (st : Stmt) (ps : List Str) (f c : Addr) (fd : FuncData) : Prop where
  ex : ∃ (oc : Value) (od : Option Addr) (kV doc pm : Value) (an : Option Addr) (ct : Value) (osl : Array (Option Value)), fd = PySem.W.fnOf name name (defArgs st) (defBody st) (defScope st) .none kV doc pm an (.ref c) ct ∧
    K.lookup f = some ⟨oc, od, .func fd, osl⟩ ∧ PySem.W.codeIn K (.ref c) name = true
  kp : PySem.W.keepIn K (.ref f) = true
  b : Binds K fd ps []
  g : mg name = some (.ref f)
section
variable {P : Program} {w : World} {K : PySem.W.Frag} {mg : Str → Option Value} {base : Heap}
theorem okGc {name : Str} {st : Stmt} {f c : Addr} {fd : FuncData} {N ps : List Str} {k : Nat} {sp : Sp} (D : Dc K mg name st ps f c fd) (S : FnScope N ps (defScope st)) (len : ∀ vs H Q E, sp vs H Q E → vs.length = ps.length)
    (hbody : ∀ (A : Around) (outer : List Env) (s : Shared) (H : Hp) (vs : List V) (Q : VK) (E : L2.XK), Room k (A.deeper (PyProof.Rows.envOfC name (defScope st) s.heap.objs.size f (.ref c))) → (A.deeper (PyProof.Rows.envOfC name (defScope st) s.heap.objs.size f (.ref c))).guards = some [] → sp vs H Q E →
      ∃ t, PSs (cxOf C8.CX0 P w K mg base N name (defScope st) f (.ref c) A outer s H E).nox (defBody st) t ∧ t { nx := fun _ H' => Q .non H', rt := Q } (L2.start N vs) H) : Gd.FnG P w K mg base (k + 1) f fd ps sp := by
  obtain ⟨oc, od, kV, doc, pm, an, ct, osl, rfl, lk, hcd⟩ := D.ex
  refine ⟨len, fun A outer s H args us vs Q E hr hgd e0 hb r h => run_ofS lk hcd S hr e0 hb r (len _ _ _ _ h) fun hr2 => ?_⟩
  obtain ⟨t, ht, q⟩ := hbody A outer s H vs Q E hr2 hgd h
  exact ⟨t, ht.nox, q⟩
/-! _law_sizes -/
def spSizes : Sp := fun vs H Q _ => vs = [] ∧ ∀ a, H a = none → Q (.ref a) (upd H a (.lst (sizesI.map V.int)))
theorem scSizes : FnScope ["found"] [] (defScope sSizes) := ⟨rfl, rfl, rfl, by decide +kernel, rfl, by decide +kernel, by decide +kernel⟩
theorem at_last {xs : List V} {x : V} : atI (xs ++ [x]) (-1) = some x := by
  unfold atI ixN
  rw [if_neg (by decide), if_pos (by rw [List.length_append]; show -(((xs.length + 1 : Nat)) : Int) ≤ -1; omega)]
  show (xs ++ [x])[(-1 + (((xs ++ [x]).length : Nat) : Int)).toNat]? = some x
  rw [show (-1 + (((xs ++ [x]).length : Nat) : Int)).toNat = xs.length by rw [List.length_append]; show (-1 + ((xs.length + 1 : Nat) : Int)).toNat = _; omega]
  simp
theorem ok_sizes {f : Addr} {fd : FuncData} (D : Df K mg "_law_sizes" "_law_sizes" sSizes [] f fd) : FnOk P w K mg base CX0 1 f fd [] spSizes := by
  refine D.F.ok scSizes (fun vs H Q E h => ?_) (fun cdv A outer s H vs Q E hr h => ?_)
  · obtain ⟨rfl, _⟩ := h
    rfl
  · obtain ⟨rfl, k⟩ := h
    refine ⟨_, pss_cons (ps_set (i := 0) scSizes.nd rfl (Or.inl rfl) (pe_lst (pa_cons pe_int pa_nil)))
      (pss_cons (ps_while PassesOwn.never (pt_cmpR op_lt (pe_ix ix_list (pv 0) (pe_un un_neg pe_int) (fun _ _ => rfl)) pe_int (nomark _))
        (pss_one (ps_expr (pe_bm PySem.F.plainAttrs_list PySem.F.slot_list_append PySem.F.type_list_append mt_append (pv 0) (pa_cons (pe_op op_add (pe_ix ix_list (pv 0) (pe_un un_neg pe_int) (fun _ _ => rfl)) (pe_ix ix_list (pv 0) (pe_un un_neg pe_int) (fun _ _ => rfl))) pa_nil)))))
      (pss_one (ps_ret (pv 0)))), ?_⟩
    refine ⟨by show 1 ≤ sizeLine; decide, fun a ha => ?_⟩
    refine ⟨fun m σ H' => σ = [some (.ref a)] ∧ m < 10 ∧ H' = upd H a (.lst ((sizesI.take (10 - m)).map V.int)), ⟨9, rfl, by decide, rfl⟩, ?_⟩
    rintro m σ H' ⟨rfl, hm, rfl⟩
    have last : ∀ m, m < 10 → ∃ y : Int, sizesI.take (10 - m) = sizesI.take (9 - m) ++ [y] ∧ (m = 0 → y = 4096) ∧ (0 < m → y < 4096 ∧ sizesI.take (10 - (m - 1)) = sizesI.take (10 - m) ++ [y + y]) := by
      intro m hm
      match m, hm with
      | 0, _ => exact ⟨4096, rfl, fun _ => rfl, fun z => absurd z (by decide)⟩
      | 1, _ => exact ⟨2048, rfl, fun z => absurd z (by decide), fun _ => ⟨by decide, rfl⟩⟩
      | 2, _ => exact ⟨1024, rfl, fun z => absurd z (by decide), fun _ => ⟨by decide, rfl⟩⟩
      | 3, _ => exact ⟨512, rfl, fun z => absurd z (by decide), fun _ => ⟨by decide, rfl⟩⟩
      | 4, _ => exact ⟨256, rfl, fun z => absurd z (by decide), fun _ => ⟨by decide, rfl⟩⟩
      | 5, _ => exact ⟨128, rfl, fun z => absurd z (by decide), fun _ => ⟨by decide, rfl⟩⟩
      | 6, _ => exact ⟨64, rfl, fun z => absurd z (by decide), fun _ => ⟨by decide, rfl⟩⟩
      | 7, _ => exact ⟨32, rfl, fun z => absurd z (by decide), fun _ => ⟨by decide, rfl⟩⟩
      | 8, _ => exact ⟨16, rfl, fun z => absurd z (by decide), fun _ => ⟨by decide, rfl⟩⟩
      | 9, _ => exact ⟨8, rfl, fun z => absurd z (by decide), fun _ => ⟨by decide, rfl⟩⟩
    obtain ⟨y, e1, e2, e3⟩ := last m hm
    have hat : atI ((sizesI.take (10 - m)).map V.int) (-1) = some (.int y) := by
      rw [e1, List.map_append]
      exact at_last
    refine ⟨_, rfl, _, rfl, a, _, _, _, rfl, rfl, SqL.of upd_same, hat, _, _, rfl, rfl, _, rfl, ?_⟩
    refine ite2 (fun e => ?_) (fun e => ?_)
    · have e : y < 4096 := of_decide_eq_true e
      have m0 : 0 < m := Nat.pos_of_ne_zero fun z => by
        have := e2 z
        omega
      obtain ⟨_, e4⟩ := e3 m0
      refine ⟨fun σ' H' => σ' = [some (.ref a)] ∧ H' = upd H a (.lst ((sizesI.take (10 - (m - 1))).map V.int)), fun σ' H' ⟨z1, z2⟩ => ⟨m - 1, by omega, z1, by omega, z2⟩, ?_⟩
      refine ⟨_, rfl, .inl ⟨rfl, _, SqL.of upd_same⟩, _, rfl, _, rfl, a, _, _, _, rfl, rfl, SqL.of upd_same, hat, _, rfl, _, rfl, a, _, _, _, rfl, rfl, SqL.of upd_same, hat, _, _, rfl, rfl, a, _, _, rfl, rfl, upd_same, ?_, ?_⟩
      · rw [List.length_map]
        exact small1000 (Nat.le_trans (List.length_take_le _ _) (by omega))
      · refine ⟨rfl, ?_⟩
        rw [upd_upd, e4, List.map_append]
        rfl
    · have m0 : m = 0 := by
        cases m with
        | zero => rfl
        | succ m => exact absurd (decide_eq_true (e3 (Nat.succ_pos _)).1) e
      subst m0
      exact ⟨_, rfl, k a ha⟩
def spOdd : Sp := fun vs H Q _ => ∃ d g : Addr, vs = [.ref d] ∧ DrawE H d g ∧ ∀ v H', Odd H' v → DrawE H' d g → Kept H H' d g → Q v H'
theorem scOdd : FnScope ["draw", "some"] ["draw"] (defScope sOdd) := ⟨rfl, rfl, rfl, by decide +kernel, rfl, by decide +kernel, by decide +kernel⟩
theorem Kept.trans {H H1 H2 : Hp} {d g : Addr} (a : Kept H H1 d g) (b : Kept H1 H2 d g) : Kept H H2 d g := fun c o e h1 h2 => b c o (a c o e h1 h2) h1 h2
theorem Kept.of_same {H H1 : Hp} {d g : Addr} (a : Same H H1) : Kept H H1 d g := fun c o e _ _ => a c o e
theorem DrawE.same {H H1 : Hp} {d g : Addr} (a : Same H H1) (h : DrawE H d g) : DrawE H1 d g := by
  obtain ⟨r, t, gs, h1, h2, h3, h4⟩ := h
  exact ⟨r, t, gs, a _ _ h1, a _ _ h2, h3, h4⟩
theorem ok_odd {f f1 : Addr} {fd fd1 : FuncData} (D : Df K mg "_law_odd" "_law_odd" sOdd ["draw"] f fd) (D1 : Df K mg "_law_next" "_law_next" sNext ["draw", "below"] f1 fd1) (G1 : FnOk P w K mg base CX0 1 f1 fd1 ["draw", "below"] spNext) : FnOk P w K mg base CX0 2 f fd ["draw"] spOdd := by
  refine D.F.ok scOdd (fun vs H Q E h => ?_) (fun cdv A outer s H vs Q E hr h => ?_)
  · obtain ⟨d, g, rfl, _⟩ := h
    rfl
  · obtain ⟨d, g, rfl, de, k⟩ := h
    refine ⟨_, pss_cons (ps_set (i := 1) scOdd.nd rfl (Or.inl rfl) (pe_lst (pa_cons pe_non (pa_cons pe_bl (pa_cons pe_bl (pa_cons (pe_un un_neg pe_int) (pa_cons (pe_un un_neg pe_int) (pa_cons pe_str (pa_cons (pe_tup (pa_cons pe_int pa_nil)) (pa_cons (pe_lst (pa_cons pe_int pa_nil)) (pa_cons pe_dnewK
      (pa_cons (pe_op op_pow pe_int pe_int) (pa_cons (pe_un un_neg (pe_op op_pow pe_int pe_int)) (pa_cons pe_str (pa_cons (pe_tup (pa_cons pe_int (pa_cons pe_int pa_nil))) pa_nil)))))))))))))))
      (pss_one (ps_ret (pe_ix ix_list (pv 1) (pe_call G1 hr rfl D1.g D1.F.kp D1.b .nil pass0 (pa_cons (pv 0) (pa_cons pe_int pa_nil))) (fun _ _ => rfl)))), ?_⟩
    obtain ⟨r, t, gs, dr⟩ := id de
    -- the parts
    refine ⟨_, rfl, _, rfl, by show 1 ≤ sizeLine; decide, fun a1 h1 => ?_⟩
    refine ⟨by show 1 ≤ sizeLine; decide, fun a2 h2 => fun a3 h3 => ?_⟩
    refine ⟨_, _, rfl, rfl, ⟨by decide, by decide, by decide⟩, _, _, rfl, rfl, ⟨by decide, by decide, by decide⟩, _, rfl, by show 2 ≤ sizeLine; decide, fun a4 h4 => ?_⟩
    refine ⟨by show 13 ≤ sizeLine; decide, fun L hL => ?_⟩
    have z1 := same_new (o := .tup [.int 8]) h1
    have z2 := same_new (o := .lst [.int 8]) h2
    have z3 := same_new (o := .dK []) h3
    have z4 := same_new (o := .tup [.int 8, .int 8]) h4
    have q1 : upd H a1 (.tup [.int 8]) a1 = some (.tup [.int 8]) := upd_same
    generalize upd H a1 (.tup [.int 8]) = H1 at z1 z2 z3 z4 q1 h2 h3 h4 hL ⊢
    have q2 : upd H1 a2 (.lst [.int 8]) a2 = some (.lst [.int 8]) := upd_same
    generalize upd H1 a2 (.lst [.int 8]) = H2 at z2 z3 z4 q2 h3 h4 hL ⊢
    have q3 : upd H2 a3 (.dK []) a3 = some (.dK []) := upd_same
    generalize upd H2 a3 (.dK []) = H3 at z3 z4 q3 h4 hL ⊢
    have q4 : upd H3 a4 (.tup [.int 8, .int 8]) a4 = some (.tup [.int 8, .int 8]) := upd_same
    generalize upd H3 a4 (.tup [.int 8, .int 8]) = H4 at z4 q4 hL ⊢
    have zz := z1.trans (z2.trans (z3.trans z4))
    have d1 := z1 _ _ dr.dc
    have g1 := z1 _ _ dr.gl
    have d2 := z2 _ _ d1
    have g2 := z2 _ _ g1
    have d3 := z3 _ _ d2
    have g3 := z3 _ _ g2
    have d4 := z4 _ _ d3
    have g4 := z4 _ _ g3
    have z5 := same_new (o := .lst [V.non, .bl true, .bl false, .int (-1), .int (-8), .str "8", .ref a1, .ref a2, .ref a3, .int (10 ^ (30 : Int).toNat), .int (-(10 ^ (30 : Int).toNat)), .str "16", .ref a4]) hL
    refine ⟨_, rfl, _, rfl, d, g, 13, rfl, de.same (zz.trans z5), by decide, by decide, fun n H' hn de2 kp2 => ?_⟩
    have o1 := kp2 _ _ (z5 _ _ (z4 _ _ (z3 _ _ (z2 _ _ q1)))) (ne_of_none dr.dc h1).symm (ne_of_none dr.gl h1).symm
    have o2 := kp2 _ _ (z5 _ _ (z4 _ _ (z3 _ _ q2))) (ne_of_none d1 h2).symm (ne_of_none g1 h2).symm
    have o3 := kp2 _ _ (z5 _ _ (z4 _ _ q3)) (ne_of_none d2 h3).symm (ne_of_none g2 h3).symm
    have o4 := kp2 _ _ (z5 _ _ q4) (ne_of_none d3 h4).symm (ne_of_none g3 h4).symm
    have oL := kp2 _ _ upd_same (ne_of_none d4 hL).symm (ne_of_none g4 hL).symm
    have ex : ∃ v, ([V.non, .bl true, .bl false, .int (-1), .int (-8), .str "8", .ref a1, .ref a2, .ref a3, .int (10 ^ (30 : Int).toNat), .int (-(10 ^ (30 : Int).toNat)), .str "16", .ref a4] : List V)[n]? = some v ∧ Odd H' v := by
      match n, hn with
      | 0, _ => exact ⟨_, rfl, .non⟩
      | 1, _ => exact ⟨_, rfl, .bl _⟩
      | 2, _ => exact ⟨_, rfl, .bl _⟩
      | 3, _ => exact ⟨_, rfl, .int _⟩
      | 4, _ => exact ⟨_, rfl, .int _⟩
      | 5, _ => exact ⟨_, rfl, .str _⟩
      | 6, _ => exact ⟨_, rfl, .tup o1⟩
      | 7, _ => exact ⟨_, rfl, .lst o2⟩
      | 8, _ => exact ⟨_, rfl, .dk o3⟩
      | 9, _ => exact ⟨_, rfl, .int _⟩
      | 10, _ => exact ⟨_, rfl, .int _⟩
      | 11, _ => exact ⟨_, rfl, .str _⟩
      | 12, _ => exact ⟨_, rfl, .tup o4⟩
    obtain ⟨v, ev, ov⟩ := ex
    exact ⟨L, _, (n : Int), _, rfl, rfl, SqL.of oL, atI_nat ev, k v H' ov de2 ((Kept.of_same (zz.trans z5)).trans kp2)⟩
end
end K10
set_option Elab.async false
set_option linter.all false
set_option maxRecDepth 100000
set_option maxHeartbeats 4000000
namespace K10
open PySem L2 Xo Lm LamX
theorem flat_i (l : List Int) : (l.map V.int).all flatV = true := by
  rw [List.all_eq_true]
  intro x hx
  obtain ⟨z, _, rfl⟩ := List.mem_map.mp hx
  rfl
/-- data that may be shown -/
def Shw (d : PyData) : Prop := d.showable = true ∧ d.hasDict = false ∧ d.depth ≤ 60 ∧ d.shown.length ≤ sizeLine
theorem shw_bools (b : Bool) : Shw (.list [.bool b, .bool b]) := by
  unfold Shw
  cases b <;> decide +kernel
theorem shw_size : Shw (.list [.tuple [.str "size"], .tuple [.str "size"]]) := by
  unfold Shw
  decide +kernel
theorem shw_cap {n : Int} (h : n ∈ sizesI) : Shw (.list [.list [.int (2 * n / 3)], .list [.int (2 * n / 3)]]) := by
  unfold sizesI at h
  simp only [List.mem_cons, List.not_mem_nil, or_false] at h
  unfold Shw
  rcases h with h | h | h | h | h | h | h | h | h | h <;> subst h <;> decide +kernel
/-- _law_said, as the top has made it -/
structure Ds (K : PySem.W.Frag) (mg : Str → Option Value) (sd : Addr) : Prop where
  g : mg "_law_said" = some (.ref sd)
  kp : PySem.W.keepIn K (.ref sd) = true
  ex : ∃ (oc : Value) (od : Option Addr) (dV kV doc pm : Value) (an : Option Addr) (cdv ct : Value) (osl : Array (Option Value)), K.lookup sd = some ⟨oc, od, .func (PySem.W.fnOf "_law_said" "_law_said" (defArgs sSaid) (defBody sSaid) (defScope sSaid) dV kV doc pm an cdv ct), osl⟩ ∧
    PySem.W.codeIn K cdv "_law_said" = true ∧ Binds K (PySem.W.fnOf "_law_said" "_law_said" (defArgs sSaid) (defBody sSaid) (defScope sSaid) dV kV doc pm an cdv ct) ["deed"] []
theorem scSaid : FnScope NS ["deed"] (defScope sSaid) := ⟨rfl, rfl, rfl, by decide +kernel, rfl, by decide +kernel, by decide +kernel⟩
abbrev qSR : Str := ("_law_size_right" : Str) ++ ".<locals>." ++ "<lambda>"
abbrev qNR : Str := ("_law_number_right" : Str) ++ ".<locals>." ++ "<lambda>"
abbrev tabs (P1 P2 : Addr) : List (Addr × Str) := [(P1, qSR), (P2, qNR)]
section
variable {P : Program} {w : World} {K : PySem.W.Frag} {mg : Str → Option Value} {base : Heap}
def spSR (P1 P2 : Addr) : Sp := fun vs H Q _ => ∃ (a : Addr) (v : V), vs = [.ref a, v] ∧ H a = some (.lst (sizesI.map V.int)) ∧ Odd H v ∧ Tabs (tabs P1 P2) H ∧ ∀ H', ExtN H H' → Tabs (tabs P1 P2) H' → Q (.bl true) H'
theorem scSR : FnScope ["sizes", "given", "good", "due"] ["sizes", "given"] (defScope sSR) := ⟨rfl, rfl, rfl, by decide +kernel, rfl, by decide +kernel, by decide +kernel⟩
theorem ok_sr {f c P1 P2 g f1 f2 C1 C2 C3 C4 T A F o1 o2 o3 o4 o5 o6 o7 o8 o9 : Addr} {fd fd1 fd2 : FuncData} (D : Dc K mg "_law_size_right" sSR ["sizes", "given"] f c fd) (B : Bl mg) (S : Ds K mg g) (N : Nm mg C1 C2 C3 C4 T A F o1 o2 o3 o4 o5 o6 o7 o8 o9)
    (D1 : Df K mg "is_size" "is_size" sSize ["thing"] f1 fd1) (G1 : FnOk P w K mg base CX0 2 f1 fd1 ["thing"] spSize) (b1 : KBinds K fd1 ["thing"] ["thing"] (fun us ws => us ++ ws) (fun vs zs => vs ++ zs))
    (D2 : Df K mg "capacity" "capacity" sCap ["size"] f2 fd2) (G2 : FnOk P w K mg base (L2.CX P w) 4 f2 fd2 ["size"] (spCap C2)) (b2 : KBinds K fd2 ["size"] ["size"] (fun us ws => us ++ ws) (fun vs zs => vs ++ zs))
    (TB : TabB base mg c P1) (nP : P2 ≠ P1) (R : Row K C2 C1 C2 C3 C4 T A F [o1, o2, o3, o4, o5, o6, o7, o8, o9] false true false false true false false) (hno : PySem.W.findIn K (.ref C2) "reason" = some none) :
    Gd.FnG P w K mg base 8 f fd ["sizes", "given"] (spSR P1 P2) := by
  obtain ⟨oc, od, dV, kV, doc, pm, an, cdv, ct, osl, lk, hcg, hb⟩ := S.ex
  refine okGc D scSR (fun vs H Q E h => ?_) (fun A0 outer s H vs Q E hr hgd h => ?_)
  · obtain ⟨a, v, rfl, _⟩ := h
    rfl
  · obtain ⟨a, v, rfl, ha, o, hT, k⟩ := h
    have hu64 := hr.units
    have hmT : (P1, ("_law_size_right" : Str) ++ ".<locals>." ++ "<lambda>") ∈ tabs P1 P2 := List.mem_cons_self ..
    have huT : ∀ p ∈ tabs P1 P2, p.1 = P1 → p.2 = ("_law_size_right" : Str) ++ ".<locals>." ++ "<lambda>" := fun p hp e => by
      rcases List.mem_cons.mp hp with rfl | hp
      · rfl
      · rw [List.mem_singleton.mp hp] at e
        exact absurd e nP
    refine ⟨_, pss_cons (ps_set (i := 2) scSR.nd rfl (Or.inl rfl) (pe_and (pe_callB call_isi (by rfl) B.isinstance (by decide +kernel) (pa_cons (pv 1) (pa_cons (pInt (by rfl) B.int) pa_nil)))
        (pe_and (pe_not (pe_callB call_isi (by rfl) B.isinstance (by decide +kernel) (pa_cons (pv 1) (pa_cons (pBool (by rfl) B.bool) pa_nil)))) (pe_one (pe_cmpR op_in_seq (pv 1) (pv 0) (by rfl))))))
      (pss_cons (ps_if (pt_cmpR op_ne (pe_callB (Gd.call_repr hgd hu64) (by rfl) B.repr (by decide +kernel) (pa_cons (pe_lst (pa_cons (pe_call G1 (hr.mono (by decide)) rfl D1.g D1.F.kp D1.b .nil pass0 (pa_cons (pv 1) pa_nil)) (pa_cons (Kw.pe_callK0 G1 (hr.mono (by decide)) rfl D1.g D1.F.kp b1 pass0 (pk_cons (pv 1) pk_nil)) pa_nil))) pa_nil))
          (pe_callB (Gd.call_repr hgd hu64) (by rfl) B.repr (by decide +kernel) (pa_cons (pe_lst (pa_cons (pv 2) (pa_cons (pv 2) pa_nil))) pa_nil)) (nomark _)) (pss_one (ps_ret pe_bl)) pss_nil)
      (pss_cons (ps_set (i := 3) scSR.nd rfl (Or.inl rfl) (pe_ifExp (pt_val (pv 2)) (pe_lst (pa_cons (pe_op op_fdiv (pe_op op_mul pe_int (pv 1)) pe_int) pa_nil)) (pe_tup (pa_cons pe_str pa_nil))))
      (pss_one (ps_ret (pe_cmpR op_eq (pe_callB (Gd.call_repr hgd hu64) (by rfl) B.repr (by decide +kernel) (pa_cons (pe_lst
          (pa_cons (pe_lamD (k := 4) (T := tabs P1 P2) (own := []) (t := fun E => tCall (spCap C2) [] E (tCons (tVar 1) tNil)) rfl S.g S.kp lk hcg hb scSaid rfl (Or.inl rfl) (said_gives (hr.mono (by decide)) N) (hr.mono (by decide)) (lm_by (N := ["sizes", "given", "good", "due"]) (sc := defScope sSR) (by decide +kernel))
            (fun pins σ H s E Q I hT h => lm_make0 I TB rfl hmT huT hT (lm_by (N := ["sizes", "given", "good", "due"]) (sc := defScope sSR) (by decide +kernel)) rfl (fun _ _ _ _ _ _ => rfl) h) (fun A outer s H E f c' hr2 => pe_call (E := E) G2 hr2 rfl D2.g D2.F.kp D2.b .nil (passes_call (takes_of rfl rfl rfl rfl) fun _ _ _ _ z => z) (pa_cons (pv 1) pa_nil)))
          (pa_cons (pe_lamD (k := 4) (T := tabs P1 P2) (own := ["x"]) (t := fun E => (fun σ H Q => tCons (tVar 1) tNil σ H fun zs H1 => spCap C2 ([] ++ zs) H1 Q E)) rfl S.g S.kp lk hcg hb scSaid rfl (Or.inl rfl) (said_gives (hr.mono (by decide)) N) (hr.mono (by decide)) (lm_by (N := ["sizes", "given", "good", "due"]) (sc := defScope sSR) (by decide +kernel))
            (fun pins σ H s E Q I hT h => lm_make1 I TB rfl hmT huT hT (lm_by (N := ["sizes", "given", "good", "due"]) (sc := defScope sSR) (by decide +kernel)) rfl rfl (fun _ _ _ _ _ _ _ _ => ⟨_, rfl, rfl⟩) h) (fun A outer s H E f c' hr2 => Kw.pe_callK0 (E := E) (sp := spCap C2) (gV := fun vs zs => vs ++ zs) G2 hr2 rfl D2.g D2.F.kp b2 (passes_call (takes_of rfl rfl rfl rfl) fun _ _ _ _ z => z) (pk_cons (pv 1) pk_nil))) pa_nil))) pa_nil))
        (pe_callB (Gd.call_repr hgd hu64) (by rfl) B.repr (by decide +kernel) (pa_cons (pe_lst (pa_cons (pv 3) (pa_cons (pv 3) pa_nil))) pa_nil)) (nomark _)))))), ?_⟩
    obtain ⟨t, ty, e1, e2⟩ := odd_ty (K := K) o
    cases hs : isSz v with
    | true =>
      obtain ⟨n, rfl, hn⟩ := sz_some hs
      have hsh := shw_bools true
      have hcp := shw_cap hn
      -- good
      refine ⟨_, rfl, _, _, _, _, _, rfl, .ty _, ty, e1, _, rfl, iteT ⟨_, rfl, _, _, _, _, _, rfl, .ty _, ty, e2, _, rfl, _, rfl, iteT ⟨_, rfl, _, rfl, a, _, rfl, .inl (SqL.of ha), rfl, flat_i _, ?_⟩⟩⟩
      show gName 2 (.bl (inV (.int n) (sizesI.map V.int))) _ _ _
      rw [in_ints, decide_eq_true hn]
      -- the two answers of is_size
      refine ⟨_, rfl, .int n, rfl, o, _, rfl, .int n, rfl, o, by show 2 ≤ sizeLine; decide, fun l1 hl1 => ?_⟩
      rw [hs]
      refine ⟨l1, .list [.bool true, .bool true], rfl, .lst (SqL.of upd_same) (.cons (.bl _) (.cons (.bl _) .nil)), hsh.1, hsh.2.1, hsh.2.2.1, hsh.2.2.2, ?_⟩
      have y1 := same_new (o := .lst [.bl true, .bl true]) hl1
      generalize upd H l1 (.lst [.bl true, .bl true]) = H1 at y1
      refine ⟨_, rfl, _, rfl, by show 2 ≤ sizeLine; decide, fun l2 hl2 => ?_⟩
      refine ⟨l2, .list [.bool true, .bool true], rfl, .lst (SqL.of upd_same) (.cons (.bl _) (.cons (.bl _) .nil)), hsh.1, hsh.2.1, hsh.2.2.1, hsh.2.2.2, rfl, _, rfl, iteNo (by simp) ?_⟩
      have y2 := y1.trans (same_new (o := .lst [.bl true, .bl true]) hl2)
      generalize upd H1 l2 (.lst [.bl true, .bl true]) = H2 at y2
      -- due
      refine ⟨_, rfl, true, rfl, iteT ⟨_, rfl, _, _, rfl, rfl, .inl ⟨by decide, by decide⟩, _, _, rfl, rfl, ⟨by decide, by decide⟩, by show 1 ≤ sizeLine; decide, fun dl hdl => ?_⟩⟩
      have y3 := y2.trans (same_new (o := .lst [.int (2 * n / 3)]) hdl)
      have l3 : upd H2 dl (.lst [.int (2 * n / 3)]) dl = some (.lst [.int (2 * n / 3)]) := upd_same
      generalize upd H2 dl (.lst [.int (2 * n / 3)]) = H3 at y3 l3
      -- the first lambda
      refine ⟨hT.ext y3, fun H4 eN4 T4 t0 ht0 E' Q' hE hQ => ⟨_, rfl, .int n, rfl, .int n, fun n' en' hn' => ?_, fun e => by rw [hs] at e; cases e⟩⟩
      cases en'
      refine hQ _ _ fun p1 hp1 => ?_
      have y5 := (eN4.trans (ExtN.of (same_new (o := .tup [.non, .non]) ht0))).trans (ExtN.of (same_new (o := .lst [.int (2 * n / 3)]) hp1))
      have T5 := (T4.ext (same_new (o := .tup [.non, .non]) ht0)).ext (same_new (o := .lst [.int (2 * n / 3)]) hp1)
      have p5 : upd (upd H4 t0 (.tup [.non, .non])) p1 (.lst [.int (2 * n / 3)]) p1 = some (.lst [.int (2 * n / 3)]) := upd_same
      generalize upd (upd H4 t0 (.tup [.non, .non])) p1 (.lst [.int (2 * n / 3)]) = H5 at y5 T5 p5
      -- the second lambda
      refine ⟨T5, fun H6 eN6 T6 t1 ht1 E2 Q2 hE2 hQ2 => ⟨_, rfl, .int n, rfl, .int n, fun n' en' hn' => ?_, fun e => by rw [hs] at e; cases e⟩⟩
      cases en'
      refine hQ2 _ _ fun p2 hp2 => ?_
      have y7 := (eN6.trans (ExtN.of (same_new (o := .tup [.non, .non]) ht1))).trans (ExtN.of (same_new (o := .lst [.int (2 * n / 3)]) hp2))
      have T7 := (T6.ext (same_new (o := .tup [.non, .non]) ht1)).ext (same_new (o := .lst [.int (2 * n / 3)]) hp2)
      have p7 : upd (upd H6 t1 (.tup [.non, .non])) p2 (.lst [.int (2 * n / 3)]) p2 = some (.lst [.int (2 * n / 3)]) := upd_same
      generalize upd (upd H6 t1 (.tup [.non, .non])) p2 (.lst [.int (2 * n / 3)]) = H7 at y7 T7 p7
      have q7 := y7 _ _ p5 fun ps z => by cases z
      have r7 := (y5.trans y7) _ _ l3 fun ps z => by cases z
      -- the two texts
      refine ⟨by show 2 ≤ sizeLine; decide, fun l8 hl8 => ?_⟩
      have y8 := same_new (o := .lst [.ref p1, .ref p2]) hl8
      refine ⟨l8, .list [.list [.int (2 * n / 3)], .list [.int (2 * n / 3)]], rfl, .lst (SqL.of upd_same) (.cons (.lst (SqL.of (y8 _ _ q7)) (.cons (.int _) .nil)) (.cons (.lst (SqL.of (y8 _ _ p7)) (.cons (.int _) .nil)) .nil)), hcp.1, hcp.2.1, hcp.2.2.1, hcp.2.2.2, ?_⟩
      refine ⟨_, rfl, _, rfl, by show 2 ≤ sizeLine; decide, fun l9 hl9 => ?_⟩
      have y9 := same_new (o := .lst [.ref dl, .ref dl]) hl9
      refine ⟨l9, .list [.list [.int (2 * n / 3)], .list [.int (2 * n / 3)]], rfl, .lst (SqL.of upd_same) (.cons (.lst (SqL.of (y9 _ _ (y8 _ _ r7))) (.cons (.int _) .nil)) (.cons (.lst (SqL.of (y9 _ _ (y8 _ _ r7))) (.cons (.int _) .nil)) .nil)), hcp.1, hcp.2.1, hcp.2.2.1, hcp.2.2.2, rfl, ?_⟩
      have kk := k _ ((ExtN.of y3).trans (y5.trans (y7.trans (ExtN.of (y8.trans y9))))) ((T7.ext y8).ext y9)
      exact Eq.mpr (congrArg (fun b => Q (V.bl b) _) (decide_eq_true rfl)) kk
    | false =>
      have hsh := shw_bools false
      refine ⟨_, rfl, _, _, _, _, _, rfl, .ty _, ty, e1, _, rfl, ite2 (fun q1 => ⟨_, rfl, _, _, _, _, _, rfl, .ty _, ty, e2, _, rfl, _, rfl, ite2 (fun q2 => ?L1) (fun _ => ?L2)⟩) (fun _ => ?L3)⟩
      case' L1 =>
        have hw : (wh v).isSome = true := by
          cases v <;> first | rfl | simp_all [wh, isBl]
        obtain ⟨n, hv⟩ := wh_some hw
        have hn : n ∉ sizesI := fun z => by
          rw [hv] at hs
          exact absurd (hs.symm.trans (decide_eq_true z)) Bool.false_ne_true
        refine ⟨_, rfl, _, rfl, a, _, rfl, .inl (SqL.of ha), by rw [hv]; rfl, flat_i _, ?_⟩
        show gName 2 (.bl (inV v (sizesI.map V.int))) _ _ _
        rw [show inV v (sizesI.map V.int) = false by rw [hv, in_ints, decide_eq_false hn]]
      all_goals
        refine ⟨_, rfl, v, rfl, o, _, rfl, v, rfl, o, by show 2 ≤ sizeLine; decide, fun l1 hl1 => ?_⟩
        rw [hs]
        refine ⟨l1, .list [.bool false, .bool false], rfl, .lst (SqL.of upd_same) (.cons (.bl _) (.cons (.bl _) .nil)), hsh.1, hsh.2.1, hsh.2.2.1, hsh.2.2.2, ?_⟩
        have y1 := same_new (o := .lst [.bl false, .bl false]) hl1
        generalize upd H l1 (.lst [.bl false, .bl false]) = H1 at y1
        refine ⟨_, rfl, _, rfl, by show 2 ≤ sizeLine; decide, fun l2 hl2 => ?_⟩
        refine ⟨l2, .list [.bool false, .bool false], rfl, .lst (SqL.of upd_same) (.cons (.bl _) (.cons (.bl _) .nil)), hsh.1, hsh.2.1, hsh.2.2.1, hsh.2.2.2, rfl, _, rfl, iteNo (by simp) ?_⟩
        have y2 := y1.trans (same_new (o := .lst [.bl false, .bl false]) hl2)
        generalize upd H1 l2 (.lst [.bl false, .bl false]) = H2 at y2
        refine ⟨_, rfl, false, rfl, iteF ⟨by show 1 ≤ sizeLine; decide, fun dl hdl => ?_⟩⟩
        have y3 := y2.trans (same_new (o := .tup [.str "size"]) hdl)
        have l3 : upd H2 dl (.tup [.str "size"]) dl = some (.tup [.str "size"]) := upd_same
        generalize upd H2 dl (.tup [.str "size"]) = H3 at y3 l3
        refine ⟨hT.ext y3, fun H4 eN4 T4 t0 ht0 E' Q' hE hQ => ⟨_, rfl, v, rfl, (Odd.same (Odd.ext o ((ExtN.of y3).trans eN4)) (same_new ht0)), fun n' en' hn' => (by rw [en'] at hs; exact absurd (hs.symm.trans (decide_eq_true hn')) Bool.false_ne_true), fun _ d y hd => hE _ _ _ ⟨C2, d, "reason", y, false, true, false, false, [.str "size"], rfl, rfl, upd_same, hno, R, .size _ _, fun Hx p1 sm hp1 => ?_⟩⟩⟩
        have m5 := (same_new (o := .tup [.non, .non]) ht0).trans ((same_new (o := .xd [("reason", y)]) hd).trans (sm.trans (same_new (o := .tup [.str "size"]) hp1)))
        have y5 := eN4.trans (ExtN.of m5)
        have T5 := T4.ext m5
        have p5 : upd Hx p1 (.tup [.str "size"]) p1 = some (.tup [.str "size"]) := upd_same
        generalize upd Hx p1 (.tup [.str "size"]) = H5 at y5 T5 p5 m5
        refine ⟨T5, fun H6 eN6 T6 t1 ht1 E2 Q2 hE2 hQ2 => ⟨_, rfl, v, rfl, (Odd.same (Odd.ext o ((ExtN.of y3).trans (y5.trans eN6))) (same_new ht1)), fun n' en' hn' => (by rw [en'] at hs; exact absurd (hs.symm.trans (decide_eq_true hn')) Bool.false_ne_true), fun _ d2 yy hd2 => hE2 _ _ _ ⟨C2, d2, "reason", yy, false, true, false, false, [.str "size"], rfl, rfl, upd_same, hno, R, .size _ _, fun Hy p2 sm2 hp2 => ?_⟩⟩⟩
        have m7 := (same_new (o := .tup [.non, .non]) ht1).trans ((same_new (o := .xd [("reason", yy)]) hd2).trans (sm2.trans (same_new (o := .tup [.str "size"]) hp2)))
        have y7 := eN6.trans (ExtN.of m7)
        have T7 := T6.ext m7
        have p7 : upd Hy p2 (.tup [.str "size"]) p2 = some (.tup [.str "size"]) := upd_same
        generalize upd Hy p2 (.tup [.str "size"]) = H7 at y7 T7 p7 m7
        have q7 := y7 _ _ p5 fun ps z => by cases z
        have r7 := (y5.trans y7) _ _ l3 fun ps z => by cases z
        refine ⟨by show 2 ≤ sizeLine; decide, fun l8 hl8 => ?_⟩
        have y8 := same_new (o := .lst [.ref p1, .ref p2]) hl8
        refine ⟨l8, .list [.tuple [.str "size"], .tuple [.str "size"]], rfl, .lst (SqL.of upd_same) (.cons (.tup (SqT.of (y8 _ _ q7)) (.cons (.str _) .nil)) (.cons (.tup (SqT.of (y8 _ _ p7)) (.cons (.str _) .nil)) .nil)), shw_size.1, shw_size.2.1, shw_size.2.2.1, shw_size.2.2.2, ?_⟩
        refine ⟨_, rfl, _, rfl, by show 2 ≤ sizeLine; decide, fun l9 hl9 => ?_⟩
        have y9 := same_new (o := .lst [.ref dl, .ref dl]) hl9
        refine ⟨l9, .list [.tuple [.str "size"], .tuple [.str "size"]], rfl, .lst (SqL.of upd_same) (.cons (.tup (SqT.of (y9 _ _ (y8 _ _ r7))) (.cons (.str _) .nil)) (.cons (.tup (SqT.of (y9 _ _ (y8 _ _ r7))) (.cons (.str _) .nil)) .nil)), shw_size.1, shw_size.2.1, shw_size.2.2.1, shw_size.2.2.2, rfl, ?_⟩
        have kk := k _ ((ExtN.of y3).trans (y5.trans (y7.trans (ExtN.of (y8.trans y9))))) ((T7.ext y8).ext y9)
        exact Eq.mpr (congrArg (fun b => Q (V.bl b) _) (decide_eq_true rfl)) kk
end
end K10
set_option Elab.async false
set_option linter.all false
set_option maxRecDepth 100000
set_option maxHeartbeats 4000000
namespace K10
open PySem L2 Xo Lm LamX
/-- the sizes that keep a test of a count -/
def fil (t : Int → Int → Bool) (v : V) : List Int := match wh v with
  | some n => if 0 ≤ n then sizesI.filter (t n) else []
  | none => []
abbrev tF (n y : Int) : Bool := decide (n ≤ 2 * y / 3)
abbrev tW (n y : Int) : Bool := decide (3 * n ≤ y)
/-- the answer's object, its data -/
def obj : List Int → HO
  | [] => .tup [.str "size"]
  | x :: _ => .lst [.int x]
def dat : List Int → PyData
  | [] => .tuple [.str "size"]
  | x :: _ => .list [.int x]
def allD : List PyData := .tuple [.str "size"] :: sizesI.map fun x => .list [.int x]
def shB (d : PyData) : Bool := d.showable && (!d.hasDict && (decide (d.depth ≤ 60) && decide (d.shown.length ≤ sizeLine)))
theorem shw_all : (allD.all fun d => allD.all fun e => shB (.list [d, e])) = true := by decide +kernel
theorem dat_all {l : List Int} (h : ∀ x ∈ l, x ∈ sizesI) : dat l ∈ allD := by
  cases l with
  | nil => exact List.mem_cons_self ..
  | cons x r => exact List.mem_cons_of_mem _ (List.mem_map.mpr ⟨x, h x (List.mem_cons_self ..), rfl⟩)
theorem shw_two {l m : List Int} (hl : ∀ x ∈ l, x ∈ sizesI) (hm : ∀ x ∈ m, x ∈ sizesI) : Shw (.list [dat l, dat m]) := by
  have h := List.all_eq_true.mp (List.all_eq_true.mp shw_all _ (dat_all hl)) _ (dat_all hm)
  unfold shB at h
  rw [Bool.and_eq_true, Bool.and_eq_true, Bool.and_eq_true, decide_eq_true_iff, decide_eq_true_iff, Bool.not_eq_true'] at h
  exact h
theorem fil_mem {t : Int → Int → Bool} {v : V} : ∀ x ∈ fil t v, x ∈ sizesI := by
  intro x hx
  unfold fil at hx
  split at hx
  · split at hx
    · exact (List.mem_filter.mp hx).1
    · cases hx
  · cases hx
theorem dp_obj {K : PySem.W.Frag} {H : Hp} {p : Addr} {l : List Int} (h : H p = some (obj l)) : Dp K H (.ref p) (dat l) := by
  cases l with
  | nil => exact .tup (SqT.of h) (.cons (.str _) .nil)
  | cons x r => exact .lst (SqL.of h) (.cons (.int _) .nil)
theorem obj_tbl {l : List Int} (ps : Array Value) : obj l ≠ .tbl ps := by
  cases l <;> intro z <;> cases z
theorem sorted_sizes : sizesI.Pairwise (· ≤ ·) := by decide
/-- the first that is kept is the least -/
theorem first_least {t : Int → Bool} {x : Int} {r : List Int} (h : sizesI.filter t = x :: r) {m : Int} (hm : Least (fun y => t y = true) m) : m = x := by
  have hx : x ∈ sizesI.filter t := by rw [h]; exact List.mem_cons_self ..
  obtain ⟨x1, x2⟩ := List.mem_filter.mp hx
  have l1 := hm.2.2 x x1 x2
  have mm : m ∈ x :: r := by rw [← h]; exact List.mem_filter.mpr ⟨hm.1, hm.2.1⟩
  rcases List.mem_cons.mp mm with e | mm
  · exact e
  · have ps : (x :: r).Pairwise (· ≤ ·) := by rw [← h]; exact sorted_sizes.sublist List.filter_sublist
    have := (List.pairwise_cons.mp ps).1 m mm
    omega
section
variable {K : PySem.W.Frag} {C1 C2 C3 C4 T A F : Addr} {os : List Addr}
theorem sf_said {H : Hp} {Q Q' : VK} {E' : L2.XK} {v : V} (R : Row K C2 C1 C2 C3 C4 T A F os false true false false true false false) (hno : PySem.W.findIn K (.ref C2) "reason" = some none) (o : Odd H v)
    (hE : ∀ cls d H', SaidE K C1 C2 C3 C4 T A F os Q cls d H' → E' cls d H') (hQ : ∀ v H', (∀ p, H' p = none → Q (.ref p) (upd H' p (.lst [v]))) → Q' v H') (k : ∀ Hx p, Same H Hx → Hx p = none → Q (.ref p) (upd Hx p (obj (fil tF v)))) : spSizeFor C2 [v] H Q' E' := by
  refine ⟨v, rfl, o, fun n e n0 n1 m H' sm hl => hQ _ _ fun p hp => ?_, fun e d y hd => ?_⟩
  · subst e
    have hf : fil tF (.int n) = sizesI.filter (tF n) := if_pos n0
    have h4 : (4096 : Int) ∈ sizesI.filter (tF n) := List.mem_filter.mpr ⟨by decide, decide_eq_true (by omega)⟩
    cases hx : sizesI.filter (tF n) with
    | nil =>
      rw [hx] at h4
      cases h4
    | cons x r =>
      have := first_least hx (m := m) ⟨hl.1, decide_eq_true hl.2.1, fun y hy ty => hl.2.2 y hy (of_decide_eq_true ty)⟩
      subst this
      have := k H' p sm hp
      rw [hf, hx] at this
      exact this
  · refine hE _ _ _ ⟨C2, d, "reason", y, false, true, false, false, [.str "size"], rfl, rfl, upd_same, hno, R, .size _ _, fun Hx p sm hp => ?_⟩
    have hf : fil tF v = [] := by
      unfold fil
      unfold btw at e
      cases hw : wh v with
      | none => rfl
      | some n =>
        rw [hw] at e
        dsimp only at e ⊢
        split
        · rename_i n0
          rw [decide_eq_true n0, Bool.true_and, decide_eq_false_iff_not] at e
          refine List.filter_eq_nil_iff.mpr fun y hy => ?_
          have : y ≤ 4096 := by
            unfold sizesI at hy
            simp only [List.mem_cons, List.not_mem_nil, or_false] at hy
            omega
          simp only [decide_eq_true_eq]
          omega
        · rfl
    have := k Hx p ((same_new hd).trans sm) hp
    rw [hf] at this
    exact this
theorem gr_said {H : Hp} {Q Q' : VK} {E' : L2.XK} {v : V} (R : Row K C2 C1 C2 C3 C4 T A F os false true false false true false false) (hno : PySem.W.findIn K (.ref C2) "reason" = some none) (o : Odd H v)
    (hE : ∀ cls d H', SaidE K C1 C2 C3 C4 T A F os Q cls d H' → E' cls d H') (hQ : ∀ v H', (∀ p, H' p = none → Q (.ref p) (upd H' p (.lst [v]))) → Q' v H') (k : ∀ Hx p, Same H Hx → Hx p = none → Q (.ref p) (upd Hx p (obj (fil tW v)))) : spGrowth C2 [v] H Q' E' := by
  refine ⟨v, rfl, o, fun n e n0 n1 m H' sm hl => hQ _ _ fun p hp => ?_, fun e d y hd => ?_⟩
  · subst e
    have hf : fil tW (.int n) = sizesI.filter (tW n) := if_pos n0
    have h4 : (4096 : Int) ∈ sizesI.filter (tW n) := List.mem_filter.mpr ⟨by decide, decide_eq_true (by omega)⟩
    cases hx : sizesI.filter (tW n) with
    | nil =>
      rw [hx] at h4
      cases h4
    | cons x r =>
      have := first_least hx (m := m) ⟨hl.1, decide_eq_true hl.2.1, fun y hy ty => hl.2.2 y hy (of_decide_eq_true ty)⟩
      subst this
      have := k H' p sm hp
      rw [hf, hx] at this
      exact this
  · refine hE _ _ _ ⟨C2, d, "reason", y, false, true, false, false, [.str "size"], rfl, rfl, upd_same, hno, R, .size _ _, fun Hx p sm hp => ?_⟩
    have hf : fil tW v = [] := by
      unfold fil
      unfold btw at e
      cases hw : wh v with
      | none => rfl
      | some n =>
        rw [hw] at e
        dsimp only at e ⊢
        split
        · rename_i n0
          rw [decide_eq_true n0, Bool.true_and, decide_eq_false_iff_not] at e
          refine List.filter_eq_nil_iff.mpr fun y hy => ?_
          have : y ≤ 4096 := by
            unfold sizesI at hy
            simp only [List.mem_cons, List.not_mem_nil, or_false] at hy
            omega
          simp only [decide_eq_true_eq]
          omega
        · rfl
    have := k Hx p ((same_new hd).trans sm) hp
    rw [hf] at this
    exact this
end
end K10
set_option Elab.async false
set_option linter.all false
set_option maxRecDepth 100000
set_option maxHeartbeats 4000000
namespace K10
open PySem L2 Xo Lm LamX
abbrev NN : List Str := ["sizes", "number", "good", "fits", "wide", "due", "found", "one"]
def cnt (v : V) : Bool := match wh v with
  | some n => decide (0 ≤ n)
  | none => false
theorem fil_none {t : Int → Int → Bool} {v : V} (h : cnt v = false) : fil t v = [] := by
  unfold fil
  unfold cnt at h
  cases hw : wh v with
  | none => rfl
  | some n =>
    rw [hw] at h
    exact if_neg (of_decide_eq_false h)
theorem cnt_some {v : V} (h : cnt v = true) : ∃ n, v = .int n ∧ 0 ≤ n := by
  cases v with
  | int n => exact ⟨n, rfl, of_decide_eq_true h⟩
  | _ => exact absurd (show false = true from h) Bool.false_ne_true
theorem if_due {K : PySem.W.Frag} {σ : L2.St} {H : Hp} {Q : VK} {i : Nat} {d : Addr} {l : List Int} (hs : σ[i]? = some (some (.ref d))) (hd : H d = some (.lst (l.map V.int)))
    (k : ∀ (H' : Hp) (p : Addr), Same H H' → H' p = none → Q (.ref p) (upd H' p (obj l))) :
    tIf (tTest (tOp (rNeD K) (tVar i) (tLst tNil))) (tLst (tCons (tOp (rIxL K) (tVar i) (tC (.int 0))) tNil)) (tTup (tCons (tC (.str "size")) tNil)) σ H Q := by
  refine ⟨_, hs, by show 0 ≤ sizeLine; decide, fun w hw => ?_⟩
  have s1 := same_new (o := .lst []) hw
  refine ⟨_, _, .lst (SqL.of (s1 _ _ hd)) (dp_ints l), .lst (SqL.of upd_same) .nil, shaped_ints l, (by decide +kernel), ?_⟩
  rw [eqv_nil]
  refine ⟨_, rfl, ?_⟩
  cases l with
  | nil => exact iteNo rfl ⟨by show 1 ≤ sizeLine; decide, fun p hp => k _ p s1 hp⟩
  | cons x r => exact iteYes rfl ⟨_, hs, d, _, 0, _, rfl, rfl, SqL.of (s1 _ _ hd), atI_nat (j := 0) rfl, by show 1 ≤ sizeLine; decide, fun p hp => k _ p s1 hp⟩
theorem take_all : sizesI.take (sizesI.map V.int).length = sizesI := rfl
section
variable {P : Program} {w : World} {K : PySem.W.Frag} {mg : Str → Option Value} {base : Heap}
theorem scNR : FnScope NN ["sizes", "number"] (defScope sNR) := ⟨rfl, rfl, rfl, by decide +kernel, rfl, by decide +kernel, by decide +kernel⟩
theorem ok_nr {f c P1 P2 g f1 f2 C1 C2 C3 C4 T A F o1 o2 o3 o4 o5 o6 o7 o8 o9 : Addr} {fd fd1 fd2 : FuncData} (D : Dc K mg "_law_number_right" sNR ["sizes", "number"] f c fd) (B : Bl mg) (S : Ds K mg g) (N : Nm mg C1 C2 C3 C4 T A F o1 o2 o3 o4 o5 o6 o7 o8 o9)
    (D1 : Df K mg "size_for" "size_for" sSizeFor ["many"] f1 fd1) (G1 : FnOk P w K mg base (L2.CX P w) 5 f1 fd1 ["many"] (spSizeFor C2)) (b1 : KBinds K fd1 ["many"] ["many"] (fun us ws => us ++ ws) (fun vs zs => vs ++ zs))
    (D2 : Df K mg "growth" "growth" sGrowth ["live"] f2 fd2) (G2 : FnOk P w K mg base (L2.CX P w) 4 f2 fd2 ["live"] (spGrowth C2)) (b2 : KBinds K fd2 ["live"] ["live"] (fun us ws => us ++ ws) (fun vs zs => vs ++ zs))
    (TB : TabB base mg c P2) (nP : P2 ≠ P1) (R : Row K C2 C1 C2 C3 C4 T A F [o1, o2, o3, o4, o5, o6, o7, o8, o9] false true false false true false false) (hno : PySem.W.findIn K (.ref C2) "reason" = some none) :
    Gd.FnG P w K mg base 8 f fd ["sizes", "number"] (spSR P1 P2) := by
  obtain ⟨oc, od, dV, kV, doc, pm, an, cdv, ct, osl, lk, hcg, hb⟩ := S.ex
  refine okGc D scNR (fun vs H Q E h => ?_) (fun A0 outer s H vs Q E hr hgd h => ?_)
  · obtain ⟨a, v, rfl, _⟩ := h
    rfl
  · obtain ⟨a, v, rfl, ha, o, hT, k⟩ := h
    have hu64 := hr.units
    have hmT : (P2, ("_law_number_right" : Str) ++ ".<locals>." ++ "<lambda>") ∈ tabs P1 P2 := List.mem_cons_of_mem _ (List.mem_cons_self ..)
    have huT : ∀ p ∈ tabs P1 P2, p.1 = P2 → p.2 = ("_law_number_right" : Str) ++ ".<locals>." ++ "<lambda>" := fun p hp e => by
      rcases List.mem_cons.mp hp with rfl | hp
      · exact absurd e.symm nP
      · rw [List.mem_singleton.mp hp]
    refine ⟨_, pss_cons (ps_set (i := 2) scNR.nd rfl (Or.inr rfl) (pe_and (pe_callB call_isi (by rfl) B.isinstance (by decide +kernel) (pa_cons (pv 1) (pa_cons (pInt (by rfl) B.int) pa_nil)))
        (pe_and (pe_not (pe_callB call_isi (by rfl) B.isinstance (by decide +kernel) (pa_cons (pv 1) (pa_cons (pBool (by rfl) B.bool) pa_nil)))) (pe_one (pe_cmpR op_ge (pv 1) pe_int (nomark _))))))
      (pss_cons (ps_setLc (i := 3) (own := [("one", 7)]) (g := gName 7) rfl scNR.nd rfl rfl (sw_true rfl rfl rfl (by decide +kernel)) (pi_list (pv 0)) (blkOk_by (own := [("one", 7)]) (N := NN) (sc := defScope sNR) (by decide +kernel)) (fun _ _ _ _ _ => pg_name (i := 7) scNR.nd rfl (Or.inl rfl))
        (fun _ _ _ _ _ => pts_one (PW.pt (pw_and (pt_val (pv 2)) (pw_and1 (pt_cmpR op_ge (pe_op op_fdiv (pe_op op_mul pe_int (pv 7)) pe_int) (pv 1) (nomark _)))))) (fun _ _ _ _ _ => pv 7))
      (pss_cons (ps_setLc (i := 4) (own := [("one", 7)]) (g := gName 7) rfl scNR.nd rfl rfl (sw_true rfl rfl rfl (by decide +kernel)) (pi_list (pv 0)) (blkOk_by (own := [("one", 7)]) (N := NN) (sc := defScope sNR) (by decide +kernel)) (fun _ _ _ _ _ => pg_name (i := 7) scNR.nd rfl (Or.inl rfl))
        (fun _ _ _ _ _ => pts_one (PW.pt (pw_and (pt_val (pv 2)) (pw_and1 (pt_cmpR op_ge (pv 7) (pe_op op_mul pe_int (pv 1)) (nomark _)))))) (fun _ _ _ _ _ => pv 7))
      (pss_cons (ps_set (i := 5) scNR.nd rfl (Or.inl rfl) (pe_lst (pa_cons (pe_ifExp (pt_cmpR (op_neD hu64) (pv 3) (pe_lst pa_nil) (nomark _)) (pe_lst (pa_cons (pe_ix ix_list (pv 3) pe_int (fun _ _ => rfl)) pa_nil)) (pe_tup (pa_cons pe_str pa_nil)))
        (pa_cons (pe_ifExp (pt_cmpR (op_neD hu64) (pv 4) (pe_lst pa_nil) (nomark _)) (pe_lst (pa_cons (pe_ix ix_list (pv 4) pe_int (fun _ _ => rfl)) pa_nil)) (pe_tup (pa_cons pe_str pa_nil))) pa_nil))))
      (pss_cons (ps_set (i := 6) scNR.nd rfl (Or.inl rfl) (pe_lst
          (pa_cons (pe_lamD (k := 5) (T := tabs P1 P2) (own := []) (t := fun E => tCall (spSizeFor C2) [] E (tCons (tVar 1) tNil)) rfl S.g S.kp lk hcg hb scSaid rfl (Or.inl rfl) (said_gives (hr.mono (by decide)) N) (hr.mono (by decide)) (lm_by (N := NN) (sc := defScope sNR) (by decide +kernel))
            (fun pins σ H s E Q I hT h => lm_make0 I TB rfl hmT huT hT (lm_by (N := NN) (sc := defScope sNR) (by decide +kernel)) rfl (fun _ _ _ _ _ _ => rfl) h) (fun A outer s H E f c' hr2 => pe_call (E := E) G1 hr2 rfl D1.g D1.F.kp D1.b .nil (passes_call (takes_of rfl rfl rfl rfl) fun _ _ _ _ z => z) (pa_cons (pv 1) pa_nil)))
          (pa_cons (pe_lamD (k := 5) (T := tabs P1 P2) (own := ["x"]) (t := fun E => tCall (spGrowth C2) [] E (tCons (tVar 1) tNil)) rfl S.g S.kp lk hcg hb scSaid rfl (Or.inl rfl) (said_gives (hr.mono (by decide)) N) (hr.mono (by decide)) (lm_by (N := NN) (sc := defScope sNR) (by decide +kernel))
            (fun pins σ H s E Q I hT h => lm_make1 I TB rfl hmT huT hT (lm_by (N := NN) (sc := defScope sNR) (by decide +kernel)) rfl rfl (fun _ _ _ _ _ _ _ _ => ⟨_, rfl, rfl⟩) h) (fun A outer s H E f c' hr2 => pe_call (E := E) G2 (hr2.mono (by decide)) rfl D2.g D2.F.kp D2.b .nil (passes_call (takes_of rfl rfl rfl rfl) fun _ _ _ _ z => z) (pa_cons (pv 1) pa_nil))) pa_nil))))
      (pss_cons (ps_if (pt_cmpR op_ne (pe_callB (Gd.call_repr hgd hu64) (by rfl) B.repr (by decide +kernel) (pa_cons (pv 6) pa_nil)) (pe_callB (Gd.call_repr hgd hu64) (by rfl) B.repr (by decide +kernel) (pa_cons (pv 5) pa_nil)) (nomark _)) (pss_one (ps_ret pe_bl)) pss_nil)
      (pss_cons (ps_set (i := 6) scNR.nd rfl (Or.inl rfl) (pe_lst
          (pa_cons (pe_lamD (k := 5) (T := tabs P1 P2) (own := []) (t := fun E => (fun σ H Q => tCons (tVar 1) tNil σ H fun zs H1 => spSizeFor C2 ([] ++ zs) H1 Q E)) rfl S.g S.kp lk hcg hb scSaid rfl (Or.inl rfl) (said_gives (hr.mono (by decide)) N) (hr.mono (by decide)) (lm_by (N := NN) (sc := defScope sNR) (by decide +kernel))
            (fun pins σ H s E Q I hT h => lm_make0 I TB rfl hmT huT hT (lm_by (N := NN) (sc := defScope sNR) (by decide +kernel)) rfl (fun _ _ _ _ _ _ => rfl) h) (fun A outer s H E f c' hr2 => Kw.pe_callK0 (E := E) (sp := spSizeFor C2) (gV := fun vs zs => vs ++ zs) G1 hr2 rfl D1.g D1.F.kp b1 (passes_call (takes_of rfl rfl rfl rfl) fun _ _ _ _ z => z) (pk_cons (pv 1) pk_nil)))
          (pa_cons (pe_lamD (k := 5) (T := tabs P1 P2) (own := ["x"]) (t := fun E => (fun σ H Q => tCons (tVar 1) tNil σ H fun zs H1 => spGrowth C2 ([] ++ zs) H1 Q E)) rfl S.g S.kp lk hcg hb scSaid rfl (Or.inl rfl) (said_gives (hr.mono (by decide)) N) (hr.mono (by decide)) (lm_by (N := NN) (sc := defScope sNR) (by decide +kernel))
            (fun pins σ H s E Q I hT h => lm_make1 I TB rfl hmT huT hT (lm_by (N := NN) (sc := defScope sNR) (by decide +kernel)) rfl rfl (fun _ _ _ _ _ _ _ _ => ⟨_, rfl, rfl⟩) h) (fun A outer s H E f c' hr2 => Kw.pe_callK0 (E := E) (sp := spGrowth C2) (gV := fun vs zs => vs ++ zs) G2 (hr2.mono (by decide)) rfl D2.g D2.F.kp b2 (passes_call (takes_of rfl rfl rfl rfl) fun _ _ _ _ z => z) (pk_cons (pv 1) pk_nil))) pa_nil))))
      (pss_one (ps_ret (pe_cmpR op_eq (pe_callB (Gd.call_repr hgd hu64) (by rfl) B.repr (by decide +kernel) (pa_cons (pv 6) pa_nil)) (pe_callB (Gd.call_repr hgd hu64) (by rfl) B.repr (by decide +kernel) (pa_cons (pv 5) pa_nil)) (nomark _)))))))))), ?_⟩
    obtain ⟨t, ty, e1, e2⟩ := odd_ty (K := K) o
    cases hs : cnt v with
    | true =>
      obtain ⟨n, hv, n0⟩ := cnt_some hs
      refine ⟨_, rfl, _, _, _, _, _, rfl, .ty _, ty, e1, _, rfl, iteYes (by rw [hv]; rfl) ⟨_, rfl, _, _, _, _, _, rfl, .ty _, ty, e2, _, rfl, _, rfl, iteYes (by rw [hv]; rfl) ⟨_, rfl, n, 0, hv, rfl, ?_⟩⟩⟩
      show gName 2 (.bl (decide (0 ≤ n))) _ _ _
      rw [decide_eq_true n0]
      refine ⟨_, rfl, a, rfl, ⟨_, SqL.of (ha)⟩, fun d1 hd1 => lc_list (K := K) (a := a) (xs := sizesI.map V.int) (fun i H' => H' = upd H d1 (.lst (((sizesI.take i).filter (tF n)).map V.int))) rfl (fun i H' _ e => by subst e; exact SqL.of (same_new hd1 _ _ (ha))) ?_ ?_⟩
      · rintro i x H' hx rfl
        obtain ⟨y, rfl, hy⟩ := int_at hx
        refine ⟨rfl, _, rfl, true, rfl, iteT ⟨_, rfl, _, _, rfl, rfl, .inl ⟨by decide, by decide⟩, _, _, rfl, rfl, ⟨by decide, by decide⟩, _, rfl, _, n, rfl, hv, _, rfl, ?_⟩⟩
        have hf := filt_more (t := tF n) hy
        refine ite2 (fun e => ?_) (fun e => ?_)
        · refine ⟨_, rfl, _, upd_same, ?_, ?_⟩
          · rw [List.length_map]
            exact small1000 (Nat.le_trans (List.length_filter_le _ _) (Nat.le_trans (List.length_take_le' _ _) (by decide)))
          · rw [upd_upd, hf, if_pos e, List.map_append]
            rfl
        · show upd H d1 _ = upd H d1 _
          rw [hf, if_neg (by simpa using e), List.append_nil]
      rintro _ rfl
      rw [take_all, ← show fil tF v = sizesI.filter (tF n) by rw [hv]; exact if_pos n0]
      have ha1 := same_new (o := .lst ((fil tF v).map V.int)) hd1 _ _ ha
      refine ⟨_, rfl, a, rfl, ⟨_, SqL.of (ha1)⟩, fun d2 hd2 => lc_list (K := K) (a := a) (xs := sizesI.map V.int) (fun i H' => H' = upd (upd H d1 (.lst ((fil tF v).map V.int))) d2 (.lst (((sizesI.take i).filter (tW n)).map V.int))) rfl (fun i H' _ e => by subst e; exact SqL.of (same_new hd2 _ _ (ha1))) ?_ ?_⟩
      · rintro i x H' hx rfl
        obtain ⟨y, rfl, hy⟩ := int_at hx
        refine ⟨rfl, _, rfl, true, rfl, iteT ⟨_, rfl, _, rfl, _, n, rfl, hv, .inl ⟨by decide, by decide⟩, _, _, rfl, rfl, _, rfl, ?_⟩⟩
        have hf := filt_more (t := tW n) hy
        refine ite2 (fun e => ?_) (fun e => ?_)
        · refine ⟨_, rfl, _, upd_same, ?_, ?_⟩
          · rw [List.length_map]
            exact small1000 (Nat.le_trans (List.length_filter_le _ _) (Nat.le_trans (List.length_take_le' _ _) (by decide)))
          · rw [upd_upd, hf, if_pos e, List.map_append]
            rfl
        · show upd (upd H d1 (.lst ((fil tF v).map V.int))) d2 _ = upd (upd H d1 (.lst ((fil tF v).map V.int))) d2 _
          rw [hf, if_neg (by simpa using e), List.append_nil]
      rintro _ rfl
      rw [take_all, ← show fil tW v = sizesI.filter (tW n) by rw [hv]; exact if_pos n0]
      have m2 := (same_new (o := .lst ((fil tF v).map V.int)) hd1).trans (same_new (o := .lst ((fil tW v).map V.int)) hd2)
      have f1 := same_new (o := .lst ((fil tW v).map V.int)) hd2 _ _ (upd_same (H := H) (a := d1) (o := .lst ((fil tF v).map V.int)))
      have f2 : upd (upd H d1 (.lst ((fil tF v).map V.int))) d2 (.lst ((fil tW v).map V.int)) d2 = some (.lst ((fil tW v).map V.int)) := upd_same
      generalize upd (upd H d1 (.lst ((fil tF v).map V.int))) d2 (.lst ((fil tW v).map V.int)) = Hc at m2 f1 f2
      have hsh := shw_two (fil_mem (t := tF) (v := v)) (fil_mem (t := tW) (v := v))
      -- due
      refine if_due rfl f1 fun Hd p1 s3 hp1 => ?_
      have s4 := s3.trans (same_new (o := obj (fil tF v)) hp1)
      have g1 : upd Hd p1 (obj (fil tF v)) p1 = some (obj (fil tF v)) := upd_same
      generalize upd Hd p1 (obj (fil tF v)) = He at s4 g1
      refine if_due rfl (s4 _ _ f2) fun Hf p2 s5 hp2 => ?_
      have s6 := s5.trans (same_new (o := obj (fil tW v)) hp2)
      have g2 : upd Hf p2 (obj (fil tW v)) p2 = some (obj (fil tW v)) := upd_same
      generalize upd Hf p2 (obj (fil tW v)) = Hg at s6 g2
      refine ⟨by show 2 ≤ sizeLine; decide, fun dl hdl => ?_⟩
      have s7 := same_new (o := .lst [.ref p1, .ref p2]) hdl
      have gl : upd Hg dl (.lst [.ref p1, .ref p2]) dl = some (.lst [.ref p1, .ref p2]) := upd_same
      have x0 : ExtN H (upd Hg dl (.lst [.ref p1, .ref p2])) := ExtN.of (m2.trans (s4.trans (s6.trans s7)))
      have T0 := hT.ext (m2.trans (s4.trans (s6.trans s7)))
      have k1 := s7 _ _ (s6 _ _ g1)
      have k2 := s7 _ _ g2
      generalize upd Hg dl (.lst [.ref p1, .ref p2]) = H0 at x0 T0 gl k1 k2
      -- found
      refine ⟨T0, fun H4 eN4 T4 t0 ht0 E1 Q1 hE1 hQ1 => ⟨_, rfl, sf_said R hno (Odd.same (Odd.ext o (x0.trans eN4)) (same_new ht0)) hE1 hQ1 fun Hx q1 sx hq1 => ?_⟩⟩
      have m5 := (same_new (o := .tup [.non, .non]) ht0).trans (sx.trans (same_new (o := obj (fil tF v)) hq1))
      have y5 := x0.trans (eN4.trans (ExtN.of m5))
      have z5 := eN4.trans (ExtN.of m5)
      have T5 := T4.ext m5
      have r1 : upd Hx q1 (obj (fil tF v)) q1 = some (obj (fil tF v)) := upd_same
      generalize upd Hx q1 (obj (fil tF v)) = H5 at m5 y5 z5 T5 r1
      refine ⟨T5, fun H6 eN6 T6 t1 ht1 E2 Q2 hE2 hQ2 => ⟨_, rfl, gr_said R hno (Odd.same (Odd.ext o (y5.trans eN6)) (same_new ht1)) hE2 hQ2 fun Hy q2 sy hq2 => ?_⟩⟩
      have m7 := (same_new (o := .tup [.non, .non]) ht1).trans (sy.trans (same_new (o := obj (fil tW v)) hq2))
      have z7 := eN6.trans (ExtN.of m7)
      have y7 := y5.trans z7
      have T7 := T6.ext m7
      have r2 : upd Hy q2 (obj (fil tW v)) q2 = some (obj (fil tW v)) := upd_same
      generalize upd Hy q2 (obj (fil tW v)) = H7 at m7 y7 z7 T7 r2
      refine ⟨by show 2 ≤ sizeLine; decide, fun fl hfl => ?_⟩
      have s8 := same_new (o := .lst [.ref q1, .ref q2]) hfl
      have l8 : upd H7 fl (.lst [.ref q1, .ref q2]) fl = some (.lst [.ref q1, .ref q2]) := upd_same
      have z8 := z5.trans (z7.trans (ExtN.of s8))
      have y8 := y7.trans (ExtN.of s8)
      have T8 := T7.ext s8
      have r18 := s8 _ _ (z7 _ _ r1 obj_tbl)
      have r28 := s8 _ _ r2
      have k18 := z8 _ _ k1 obj_tbl
      have k28 := z8 _ _ k2 obj_tbl
      have gl8 := z8 _ _ gl fun ps z => by cases z
      generalize upd H7 fl (.lst [.ref q1, .ref q2]) = H8 at s8 l8 z8 y8 T8 r18 r28 k18 k28 gl8
      refine ⟨_, rfl, fl, .list [dat (fil tF v), dat (fil tW v)], rfl, .lst (SqL.of l8) (.cons (dp_obj r18) (.cons (dp_obj r28) .nil)), hsh.1, hsh.2.1, hsh.2.2.1, hsh.2.2.2, ?_⟩
      refine ⟨_, rfl, dl, .list [dat (fil tF v), dat (fil tW v)], rfl, .lst (SqL.of gl8) (.cons (dp_obj k18) (.cons (dp_obj k28) .nil)), hsh.1, hsh.2.1, hsh.2.2.1, hsh.2.2.2, rfl, _, rfl, iteNo (by simp) ?_⟩
      -- by name
      refine ⟨T8, fun I4 fN4 U4 t0 ht0 E1 Q1 hE1 hQ1 => ⟨_, rfl, sf_said R hno (Odd.same (Odd.ext o (y8.trans fN4)) (same_new ht0)) hE1 hQ1 fun Hx q1 sx hq1 => ?_⟩⟩
      have m9 := (same_new (o := .tup [.non, .non]) ht0).trans (sx.trans (same_new (o := obj (fil tF v)) hq1))
      have z9 := fN4.trans (ExtN.of m9)
      have y9 := y8.trans z9
      have T9 := U4.ext m9
      have r1 : upd Hx q1 (obj (fil tF v)) q1 = some (obj (fil tF v)) := upd_same
      generalize upd Hx q1 (obj (fil tF v)) = H9 at m9 y9 z9 T9 r1
      refine ⟨T9, fun I6 fN6 U6 t1 ht1 E2 Q2 hE2 hQ2 => ⟨_, rfl, gr_said R hno (Odd.same (Odd.ext o (y9.trans fN6)) (same_new ht1)) hE2 hQ2 fun Hy q2 sy hq2 => ?_⟩⟩
      have ma := (same_new (o := .tup [.non, .non]) ht1).trans (sy.trans (same_new (o := obj (fil tW v)) hq2))
      have za := fN6.trans (ExtN.of ma)
      have ya := y9.trans za
      have Ta := U6.ext ma
      have r2 : upd Hy q2 (obj (fil tW v)) q2 = some (obj (fil tW v)) := upd_same
      generalize upd Hy q2 (obj (fil tW v)) = Ha at ma ya za Ta r2
      refine ⟨by show 2 ≤ sizeLine; decide, fun fm hfm => ?_⟩
      have sb := same_new (o := .lst [.ref q1, .ref q2]) hfm
      have lb : upd Ha fm (.lst [.ref q1, .ref q2]) fm = some (.lst [.ref q1, .ref q2]) := upd_same
      have zb := z9.trans (za.trans (ExtN.of sb))
      refine ⟨_, rfl, fm, .list [dat (fil tF v), dat (fil tW v)], rfl, .lst (SqL.of lb) (.cons (dp_obj (sb _ _ (za _ _ r1 obj_tbl))) (.cons (dp_obj (sb _ _ r2)) .nil)), hsh.1, hsh.2.1, hsh.2.2.1, hsh.2.2.2, ?_⟩
      refine ⟨_, rfl, dl, .list [dat (fil tF v), dat (fil tW v)], rfl, .lst (SqL.of (zb _ _ gl8 fun ps z => by cases z)) (.cons (dp_obj (zb _ _ k18 obj_tbl)) (.cons (dp_obj (zb _ _ k28 obj_tbl)) .nil)), hsh.1, hsh.2.1, hsh.2.2.1, hsh.2.2.2, rfl, ?_⟩
      have kk := k _ (ya.trans (ExtN.of sb)) (Ta.ext sb)
      exact Eq.mpr (congrArg (fun b => Q (V.bl b) _) (decide_eq_true rfl)) kk
    | false =>
      refine ⟨_, rfl, _, _, _, _, _, rfl, .ty _, ty, e1, _, rfl, ite2 (fun q1 => ⟨_, rfl, _, _, _, _, _, rfl, .ty _, ty, e2, _, rfl, _, rfl, ite2 (fun q2 => ?L1) (fun _ => ?L2)⟩) (fun _ => ?L3)⟩
      case' L1 =>
        have hw : (wh v).isSome = true := by
          cases v <;> first | rfl | simp_all [wh, isBl]
        obtain ⟨n, hv⟩ := wh_some hw
        have hn : ¬ 0 ≤ n := fun z => by
          rw [hv] at hs
          exact absurd (hs.symm.trans (decide_eq_true z)) Bool.false_ne_true
        refine ⟨_, rfl, n, 0, hv, rfl, ?_⟩
        show gName 2 (.bl (decide (0 ≤ n))) _ _ _
        rw [decide_eq_false hn]
      all_goals
        refine ⟨_, rfl, a, rfl, ⟨_, SqL.of (ha)⟩, fun d1 hd1 => lc_list (K := K) (a := a) (xs := sizesI.map V.int) (fun i H' => H' = upd H d1 (.lst [])) rfl (fun i H' _ e => by subst e; exact SqL.of (same_new hd1 _ _ (ha))) (fun i x H' hx e => ⟨rfl, _, rfl, false, rfl, iteF (iteF e)⟩) ?_⟩
        rintro _ rfl
        rw [show upd H d1 (.lst []) = upd H d1 (.lst ((fil tF v).map V.int)) by rw [fil_none hs]; rfl]
        have ha1 := same_new (o := .lst ((fil tF v).map V.int)) hd1 _ _ ha
        refine ⟨_, rfl, a, rfl, ⟨_, SqL.of (ha1)⟩, fun d2 hd2 => lc_list (K := K) (a := a) (xs := sizesI.map V.int) (fun i H' => H' = upd (upd H d1 (.lst ((fil tF v).map V.int))) d2 (.lst [])) rfl (fun i H' _ e => by subst e; exact SqL.of (same_new hd2 _ _ (ha1))) (fun i x H' hx e => ⟨rfl, _, rfl, false, rfl, iteF (iteF e)⟩) ?_⟩
        rintro _ rfl
        rw [show upd (upd H d1 (.lst ((fil tF v).map V.int))) d2 (.lst []) = upd (upd H d1 (.lst ((fil tF v).map V.int))) d2 (.lst ((fil tW v).map V.int)) by rw [fil_none hs (t := tW)]; rfl]
        have m2 := (same_new (o := .lst ((fil tF v).map V.int)) hd1).trans (same_new (o := .lst ((fil tW v).map V.int)) hd2)
        have f1 := same_new (o := .lst ((fil tW v).map V.int)) hd2 _ _ (upd_same (H := H) (a := d1) (o := .lst ((fil tF v).map V.int)))
        have f2 : upd (upd H d1 (.lst ((fil tF v).map V.int))) d2 (.lst ((fil tW v).map V.int)) d2 = some (.lst ((fil tW v).map V.int)) := upd_same
        generalize upd (upd H d1 (.lst ((fil tF v).map V.int))) d2 (.lst ((fil tW v).map V.int)) = Hc at m2 f1 f2
        have hsh := shw_two (fil_mem (t := tF) (v := v)) (fil_mem (t := tW) (v := v))
        -- due
        refine if_due rfl f1 fun Hd p1 s3 hp1 => ?_
        have s4 := s3.trans (same_new (o := obj (fil tF v)) hp1)
        have g1 : upd Hd p1 (obj (fil tF v)) p1 = some (obj (fil tF v)) := upd_same
        generalize upd Hd p1 (obj (fil tF v)) = He at s4 g1
        refine if_due rfl (s4 _ _ f2) fun Hf p2 s5 hp2 => ?_
        have s6 := s5.trans (same_new (o := obj (fil tW v)) hp2)
        have g2 : upd Hf p2 (obj (fil tW v)) p2 = some (obj (fil tW v)) := upd_same
        generalize upd Hf p2 (obj (fil tW v)) = Hg at s6 g2
        refine ⟨by show 2 ≤ sizeLine; decide, fun dl hdl => ?_⟩
        have s7 := same_new (o := .lst [.ref p1, .ref p2]) hdl
        have gl : upd Hg dl (.lst [.ref p1, .ref p2]) dl = some (.lst [.ref p1, .ref p2]) := upd_same
        have x0 : ExtN H (upd Hg dl (.lst [.ref p1, .ref p2])) := ExtN.of (m2.trans (s4.trans (s6.trans s7)))
        have T0 := hT.ext (m2.trans (s4.trans (s6.trans s7)))
        have k1 := s7 _ _ (s6 _ _ g1)
        have k2 := s7 _ _ g2
        generalize upd Hg dl (.lst [.ref p1, .ref p2]) = H0 at x0 T0 gl k1 k2
        -- found
        refine ⟨T0, fun H4 eN4 T4 t0 ht0 E1 Q1 hE1 hQ1 => ⟨_, rfl, sf_said R hno (Odd.same (Odd.ext o (x0.trans eN4)) (same_new ht0)) hE1 hQ1 fun Hx q1 sx hq1 => ?_⟩⟩
        have m5 := (same_new (o := .tup [.non, .non]) ht0).trans (sx.trans (same_new (o := obj (fil tF v)) hq1))
        have y5 := x0.trans (eN4.trans (ExtN.of m5))
        have z5 := eN4.trans (ExtN.of m5)
        have T5 := T4.ext m5
        have r1 : upd Hx q1 (obj (fil tF v)) q1 = some (obj (fil tF v)) := upd_same
        generalize upd Hx q1 (obj (fil tF v)) = H5 at m5 y5 z5 T5 r1
        refine ⟨T5, fun H6 eN6 T6 t1 ht1 E2 Q2 hE2 hQ2 => ⟨_, rfl, gr_said R hno (Odd.same (Odd.ext o (y5.trans eN6)) (same_new ht1)) hE2 hQ2 fun Hy q2 sy hq2 => ?_⟩⟩
        have m7 := (same_new (o := .tup [.non, .non]) ht1).trans (sy.trans (same_new (o := obj (fil tW v)) hq2))
        have z7 := eN6.trans (ExtN.of m7)
        have y7 := y5.trans z7
        have T7 := T6.ext m7
        have r2 : upd Hy q2 (obj (fil tW v)) q2 = some (obj (fil tW v)) := upd_same
        generalize upd Hy q2 (obj (fil tW v)) = H7 at m7 y7 z7 T7 r2
        refine ⟨by show 2 ≤ sizeLine; decide, fun fl hfl => ?_⟩
        have s8 := same_new (o := .lst [.ref q1, .ref q2]) hfl
        have l8 : upd H7 fl (.lst [.ref q1, .ref q2]) fl = some (.lst [.ref q1, .ref q2]) := upd_same
        have z8 := z5.trans (z7.trans (ExtN.of s8))
        have y8 := y7.trans (ExtN.of s8)
        have T8 := T7.ext s8
        have r18 := s8 _ _ (z7 _ _ r1 obj_tbl)
        have r28 := s8 _ _ r2
        have k18 := z8 _ _ k1 obj_tbl
        have k28 := z8 _ _ k2 obj_tbl
        have gl8 := z8 _ _ gl fun ps z => by cases z
        generalize upd H7 fl (.lst [.ref q1, .ref q2]) = H8 at s8 l8 z8 y8 T8 r18 r28 k18 k28 gl8
        refine ⟨_, rfl, fl, .list [dat (fil tF v), dat (fil tW v)], rfl, .lst (SqL.of l8) (.cons (dp_obj r18) (.cons (dp_obj r28) .nil)), hsh.1, hsh.2.1, hsh.2.2.1, hsh.2.2.2, ?_⟩
        refine ⟨_, rfl, dl, .list [dat (fil tF v), dat (fil tW v)], rfl, .lst (SqL.of gl8) (.cons (dp_obj k18) (.cons (dp_obj k28) .nil)), hsh.1, hsh.2.1, hsh.2.2.1, hsh.2.2.2, rfl, _, rfl, iteNo (by simp) ?_⟩
        -- by name
        refine ⟨T8, fun I4 fN4 U4 t0 ht0 E1 Q1 hE1 hQ1 => ⟨_, rfl, sf_said R hno (Odd.same (Odd.ext o (y8.trans fN4)) (same_new ht0)) hE1 hQ1 fun Hx q1 sx hq1 => ?_⟩⟩
        have m9 := (same_new (o := .tup [.non, .non]) ht0).trans (sx.trans (same_new (o := obj (fil tF v)) hq1))
        have z9 := fN4.trans (ExtN.of m9)
        have y9 := y8.trans z9
        have T9 := U4.ext m9
        have r1 : upd Hx q1 (obj (fil tF v)) q1 = some (obj (fil tF v)) := upd_same
        generalize upd Hx q1 (obj (fil tF v)) = H9 at m9 y9 z9 T9 r1
        refine ⟨T9, fun I6 fN6 U6 t1 ht1 E2 Q2 hE2 hQ2 => ⟨_, rfl, gr_said R hno (Odd.same (Odd.ext o (y9.trans fN6)) (same_new ht1)) hE2 hQ2 fun Hy q2 sy hq2 => ?_⟩⟩
        have ma := (same_new (o := .tup [.non, .non]) ht1).trans (sy.trans (same_new (o := obj (fil tW v)) hq2))
        have za := fN6.trans (ExtN.of ma)
        have ya := y9.trans za
        have Ta := U6.ext ma
        have r2 : upd Hy q2 (obj (fil tW v)) q2 = some (obj (fil tW v)) := upd_same
        generalize upd Hy q2 (obj (fil tW v)) = Ha at ma ya za Ta r2
        refine ⟨by show 2 ≤ sizeLine; decide, fun fm hfm => ?_⟩
        have sb := same_new (o := .lst [.ref q1, .ref q2]) hfm
        have lb : upd Ha fm (.lst [.ref q1, .ref q2]) fm = some (.lst [.ref q1, .ref q2]) := upd_same
        have zb := z9.trans (za.trans (ExtN.of sb))
        refine ⟨_, rfl, fm, .list [dat (fil tF v), dat (fil tW v)], rfl, .lst (SqL.of lb) (.cons (dp_obj (sb _ _ (za _ _ r1 obj_tbl))) (.cons (dp_obj (sb _ _ r2)) .nil)), hsh.1, hsh.2.1, hsh.2.2.1, hsh.2.2.2, ?_⟩
        refine ⟨_, rfl, dl, .list [dat (fil tF v), dat (fil tW v)], rfl, .lst (SqL.of (zb _ _ gl8 fun ps z => by cases z)) (.cons (dp_obj (zb _ _ k18 obj_tbl)) (.cons (dp_obj (zb _ _ k28 obj_tbl)) .nil)), hsh.1, hsh.2.1, hsh.2.2.1, hsh.2.2.2, rfl, ?_⟩
        have kk := k _ (ya.trans (ExtN.of sb)) (Ta.ext sb)
        exact Eq.mpr (congrArg (fun b => Q (V.bl b) _) (decide_eq_true rfl)) kk
end
end K10
set_option Elab.async false
set_option linter.all false
set_option maxRecDepth 100000
set_option maxHeartbeats 4000000
namespace K10
open PySem L2 Xo Lm LamX
section
variable {P : Program} {w : World} {K : PySem.W.Frag} {mg : Str → Option Value} {base : Heap}
abbrev NLw : List Str := ["script", "draw", "sizes", "one", "given", "turn", "odd", "number"]
theorem DrawE.ext {H H1 : Hp} {d g : Addr} (a : ExtN H H1) (h : DrawE H d g) : DrawE H1 d g := by
  obtain ⟨r, t, gs, dc, gl, x, y⟩ := h
  exact ⟨r, t, gs, ⟨a _ _ dc (fun ps z => by cases z), a _ _ gl (fun ps z => by cases z), x, y⟩⟩
theorem size_small : ∀ {y : Int}, y ∈ sizesI → 0 ≤ y ∧ y ≤ 4096 := by decide
theorem Odd.kept {H H' : Hp} {d g : Addr} {v : V} (h : Odd H v) (de : DrawE H' d g) (kp : Kept H H' d g) : Odd H' v := by
  obtain ⟨r, t, gs, dr⟩ := id de
  have cs : ∀ (b : Addr) (o : HO), H b = some o → (H' b = some o → Odd H' (.ref b)) → Odd H' (.ref b) := fun b o e f => by
    by_cases z : b = d
    · exact z ▸ .dk dr.dc
    · by_cases z2 : b = g
      · exact z2 ▸ .lst dr.gl
      · exact f (kp _ _ e z z2)
  cases h with
  | int n => exact .int n
  | bl b => exact .bl b
  | non => exact .non
  | str x => exact .str x
  | tup h => exact cs _ _ h fun e => .tup e
  | lst h => exact cs _ _ h fun e => .lst e
  | dk h => exact cs _ _ h fun e => .dk e
theorem tabK {H H' : Hp} {d g P1 P2 : Addr} (de : DrawE H d g) (h : Tabs (tabs P1 P2) H) (kp : Kept H H' d g) : Tabs (tabs P1 P2) H' := by
  obtain ⟨r, t, gs, dr⟩ := id de
  intro p hp
  obtain ⟨ps, e, tr, f⟩ := h p hp
  refine ⟨ps, kp _ _ e (ne_of e dr.dc (by intro z; cases z)) (ne_of e dr.gl (by intro z; cases z)), tr, fun pos cv hc => ?_⟩
  obtain ⟨c, rfl, hc2⟩ := f pos cv hc
  exact ⟨c, rfl, kp _ _ hc2 (ne_of hc2 dr.dc (by intro z; cases z)) (ne_of hc2 dr.gl (by intro z; cases z))⟩
theorem seqN {K : PySem.W.Frag} {H H' : Hp} {a : Addr} {xs : List V} (e : ExtN H H') (h : SqL K H a xs) : SqL K H' a xs := by
  rcases h with (h | ⟨o, h⟩) | h
  · exact .inl (.inl (e _ _ h fun ps z => by cases z))
  · exact .inl (.inr ⟨o, e _ _ h fun ps z => by cases z⟩)
  · exact .inr h
def spLaw (K : PySem.W.Frag) (P1 P2 : Addr) : Sp := fun vs H Q _ => ∃ (a : Addr) (ns : List Int), vs = [.ref a] ∧ SqL K H a (ns.map V.int) ∧ ns.length ≤ 63 ∧ Tabs (tabs P1 P2) H ∧ ∀ H', Q (.bl true) H'
theorem scLaw : FnScope NLw ["script"] (defScope sLaw) := ⟨rfl, rfl, rfl, by decide +kernel, rfl, by decide +kernel, by decide +kernel⟩
theorem ok_law {f P1 P2 fb fn fz fo fs fr cs cr m1 m2 m3 m4 : Addr} {fd fdb fdn fdz fdo fds fdr : FuncData} (F : Fun K "law" "law" sLaw f fd) (B : Bl mg) (nP : P2 ≠ P1)
    (gE : mg "EMPTY" = some (.int (-1) t1)) (gH : mg "HOLE" = some (.int (-2) t2)) (gI : mg "MIN_SIZE" = some (.int 8 t3)) (gX : mg "MAX_SIZE" = some (.int 4096 t4))
    (Db : Df K mg "_law_begun" "_law_begun" sBegun ["script"] fb fdb) (Gb : FnOk P w K mg base CX0 1 fb fdb ["script"] (spBegun K))
    (Dn : Df K mg "_law_next" "_law_next" sNext ["draw", "below"] fn fdn) (Gn : FnOk P w K mg base CX0 1 fn fdn ["draw", "below"] spNext)
    (Dz : Df K mg "_law_sizes" "_law_sizes" sSizes [] fz fdz) (Gz : FnOk P w K mg base CX0 1 fz fdz [] spSizes)
    (Do : Df K mg "_law_odd" "_law_odd" sOdd ["draw"] fo fdo) (Go : FnOk P w K mg base CX0 2 fo fdo ["draw"] spOdd)
    (Ds1 : Dc K mg "_law_size_right" sSR ["sizes", "given"] fs cs fds) (Gs : Gd.FnG P w K mg base 8 fs fds ["sizes", "given"] (spSR P1 P2))
    (Dr : Dc K mg "_law_number_right" sNR ["sizes", "number"] fr cr fdr) (Gr : Gd.FnG P w K mg base 8 fr fdr ["sizes", "number"] (spSR P1 P2)) :
    Gd.FnG P w K mg base 9 f fd ["script"] (spLaw K P1 P2) := by
  refine Gd.okG F scLaw (fun vs H Q E h => ?_) (fun cdv A outer s H vs Q E hr hgd h => ?_)
  · obtain ⟨a, ns, rfl, _⟩ := h
    rfl
  · obtain ⟨a, ns, rfl, hS, hlen, hT, k⟩ := h
    have hu64 := hr.units
    refine ⟨_, pss_cons (ps_par (i := 1) (j := 2) rfl scLaw.nd rfl rfl (by decide) rfl rfl (pa_cons (pe_call Gb (hr.mono (by decide)) rfl Db.g Db.F.kp Db.b .nil pass0 (pa_cons (pv 0) pa_nil)) (pa_cons (pe_call0 Gz (hr.mono (by decide)) rfl Dz.g Dz.F.kp Dz.b .nil pass0) pa_nil)) rfl)
      (pss_cons (ps_if (pt_cmpR (op_neD hu64) (pe_lst (pa_cons (pe_glob (v := .int (-1)) rfl gE ⟨_, rfl⟩) (pa_cons (pe_glob (v := .int (-2)) rfl gH ⟨_, rfl⟩) (pa_cons (pe_glob (v := .int 8) rfl gI ⟨_, rfl⟩) (pa_cons (pe_glob (v := .int 4096) rfl gX ⟨_, rfl⟩) pa_nil)))))
          (pe_lst (pa_cons (pe_un un_neg pe_int) (pa_cons (pe_un un_neg pe_int) (pa_cons pe_int (pa_cons pe_int pa_nil))))) (nomark _)) (pss_one (ps_ret pe_bl)) pss_nil)
      (pss_cons (ps_for PassesOwn.never rfl (pi_list (pv 2)) (pg_name (i := 3) scLaw.nd rfl (Or.inl rfl))
        (pss_one (ps_for PassesOwn.never rfl (pi_tup (pe_tup (pa_cons (pv 3) (pa_cons (pe_op op_sub (pv 3) pe_int) (pa_cons (pe_op op_add (pv 3) pe_int) (pa_cons (pe_op op_fdiv (pe_op op_mul pe_int (pv 3)) pe_int) (pa_cons (pe_op op_fdiv (pe_op op_mul pe_int (pv 3)) pe_int) (pa_cons (pe_op op_add (pe_op op_fdiv (pe_op op_mul pe_int (pv 3)) pe_int) pe_int) (pa_cons (pe_op op_fdiv (pv 3) pe_int) (pa_cons (pe_op op_add (pe_op op_fdiv (pv 3) pe_int) pe_int) pa_nil)))))))))) (pg_name (i := 4) scLaw.nd rfl (Or.inl rfl))
          (pss_one (ps_if (PW.pt (pw_or (pt_not (pt_val (Gd.pe_callG Gs hr hgd rfl Ds1.g Ds1.kp Ds1.b (pa_cons (pv 2) (pa_cons (pv 4) pa_nil))))) (pw_or1 (pt_not (pt_val (Gd.pe_callG Gr hr hgd rfl Dr.g Dr.kp Dr.b (pa_cons (pv 2) (pa_cons (pv 4) pa_nil)))))))) (pss_one (ps_ret pe_bl)) pss_nil)))))
      (pss_cons (ps_for PassesOwn.never rfl (pi_range1 rfl B.range (pa_cons (pe_op op_add pe_int (pe_callB (call_min2 rfl) (by rfl) B.min (by decide +kernel) (pa_cons pe_int (pa_cons (pe_callB call_len_seq (by rfl) B.len PySem.boot_len (pa_cons (pv 0) pa_nil)) pa_nil)))) pa_nil)) (pg_name (i := 5) scLaw.nd rfl (Or.inl rfl))
        (pss_cons (ps_par (i := 6) (j := 7) rfl scLaw.nd rfl rfl (by decide) rfl rfl (pa_cons (pe_call Go (hr.mono (by decide)) rfl Do.g Do.F.kp Do.b .nil pass0 (pa_cons (pv 1) pa_nil)) (pa_cons (pe_call Gn (hr.mono (by decide)) rfl Dn.g Dn.F.kp Dn.b .nil pass0 (pa_cons (pv 1) (pa_cons pe_int pa_nil))) pa_nil)) rfl)
        (pss_one (ps_for PassesOwn.never rfl (pi_tup (pe_tup (pa_cons (pv 6) (pa_cons (pv 7) (pa_cons (pe_op op_add pe_int (pe_call Gn (hr.mono (by decide)) rfl Dn.g Dn.F.kp Dn.b .nil pass0 (pa_cons (pv 1) (pa_cons pe_int pa_nil)))) pa_nil))))) (pg_name (i := 4) scLaw.nd rfl (Or.inl rfl))
          (pss_one (ps_if (PW.pt (pw_or (pt_not (pt_val (Gd.pe_callG Gs hr hgd rfl Ds1.g Ds1.kp Ds1.b (pa_cons (pv 2) (pa_cons (pv 4) pa_nil))))) (pw_or1 (pt_not (pt_val (Gd.pe_callG Gr hr hgd rfl Dr.g Dr.kp Dr.b (pa_cons (pv 2) (pa_cons (pv 4) pa_nil)))))))) (pss_one (ps_ret pe_bl)) pss_nil))))))
      (pss_one (ps_ret pe_bl))))), ?_⟩
    refine ⟨_, rfl, a, ns, rfl, hS, hlen, fun d g H1 de sm hd0 hg0 => ?_⟩
    refine ⟨rfl, fun l1 h1 => ?_⟩
    have e1 : upd H1 l1 (.lst (sizesI.map V.int)) l1 = some (.lst (sizesI.map V.int)) := upd_same
    have m1 : Same H (upd H1 l1 (.lst (sizesI.map V.int))) := sm.trans (same_new h1)
    have de1 := de.same (same_new (o := .lst (sizesI.map V.int)) h1)
    have T1 := hT.ext m1
    have ndl : l1 ≠ d := by
      obtain ⟨r, t, gs, dr⟩ := id de
      exact fun z => by rw [z, dr.dc] at h1; cases h1
    have ngl : l1 ≠ g := by
      obtain ⟨r, t, gs, dr⟩ := id de
      exact fun z => by rw [z, dr.gl] at h1; cases h1
    have S1 := m1.seq hS
    generalize upd H1 l1 (.lst (sizesI.map V.int)) = HA at e1 de1 T1 S1 ⊢
    refine ⟨_, _, rfl, ?_⟩
    refine ⟨by show 4 ≤ sizeLine; decide, fun b1 hb1 => ?_⟩
    refine ⟨_, rfl, _, rfl, by show 4 ≤ sizeLine; decide, fun b2 hb2 => ?_⟩
    refine ⟨.list ([-1, -2, 8, 4096].map PyData.int), .list ([-1, -2, 8, 4096].map PyData.int), .lst (SqL.of (same_new hb2 _ _ upd_same)) (dp_ints [-1, -2, 8, 4096]), .lst (SqL.of upd_same) (dp_ints [-1, -2, 8, 4096]), shaped_ints _, shaped_ints _, ?_⟩
    refine ⟨_, rfl, iteNo (by decide +kernel) ?_⟩
    have m2 := (same_new (o := .lst ([-1, -2, 8, 4096].map V.int)) hb1).trans (same_new (o := .lst ([-1, -2, 8, 4096].map V.int)) hb2)
    change tSeq _ _ _ _ (upd (upd HA b1 (.lst ([-1, -2, 8, 4096].map V.int))) b2 (.lst ([-1, -2, 8, 4096].map V.int)))
    have ea := m2 _ _ e1
    have de2 := de1.same m2
    have T2 := T1.ext m2
    have S2 := m2.seq S1
    generalize upd (upd HA b1 (.lst ([-1, -2, 8, 4096].map V.int))) b2 (.lst ([-1, -2, 8, 4096].map V.int)) = HB at ea de2 T2 S2 ⊢
    clear m2 hb1 hb2 S1 T1 de1 e1 
    refine ⟨_, rfl, l1, rfl, ⟨_, SqL.of ea⟩, for_list (fun i σ' H' => (∃ v3 v4, σ' = [some (.ref a), some (.ref d), some (.ref l1), v3, v4, none, none, none]) ∧ ExtN HB H' ∧ Tabs (tabs P1 P2) H') ⟨⟨_, _, rfl⟩, ExtN.of (fun _ _ e => e), T2⟩ (fun i σ' H' _ hv => SqL.of (hv.2.1 _ _ ea fun ps z => by cases z)) ?_ ?_⟩
    · rintro i x σ' H' hx ⟨⟨v3, v4, rfl⟩, eN, hT'⟩
      obtain ⟨y, rfl, hy⟩ := int_at hx
      have hy2 := size_small (List.mem_of_getElem? hy)
      have c3 : CMul 3 y := .inl (by decide)
      have c2 : CMul 2 y := .inl (by decide)
      have d2 : ∀ z, CDiv z 2 := fun _ => ⟨by decide, by decide⟩
      have d3 : ∀ z, CDiv z 3 := fun _ => ⟨by decide, by decide⟩
      refine ⟨_, rfl, _, rfl, _, _, rfl, rfl, _, rfl, _, _, rfl, rfl, _, rfl, _, _, rfl, rfl, c3, _, _, rfl, rfl, d2 _, _, rfl, _, _, rfl, rfl, c2, _, _, rfl, rfl, d3 _, _, rfl, _, _, rfl, rfl, c2, _, _, rfl, rfl, d3 _, _, _, rfl, rfl, _, rfl, _, _, rfl, rfl, d3 _, _, rfl, _, _, rfl, rfl, d3 _, _, _, rfl, rfl, ?_⟩
      refine ⟨by show 8 ≤ sizeLine; decide, fun t ht => ?_⟩
      have xt := ExtN.of (same_new (o := .tup ([y, y - 1, y + 1, 3 * y / 2, 2 * y / 3, 2 * y / 3 + 1, y / 3, y / 3 + 1].map V.int)) ht)
      have Tt := hT'.ext (same_new (o := .tup ([y, y - 1, y + 1, 3 * y / 2, 2 * y / 3, 2 * y / 3 + 1, y / 3, y / 3 + 1].map V.int)) ht)
      have lt : upd H' t (.tup ([y, y - 1, y + 1, 3 * y / 2, 2 * y / 3, 2 * y / 3 + 1, y / 3, y / 3 + 1].map V.int)) t = some (.tup ([y, y - 1, y + 1, 3 * y / 2, 2 * y / 3, 2 * y / 3 + 1, y / 3, y / 3 + 1].map V.int)) := upd_same
      refine ⟨t, rfl, ⟨_, .inl (.of lt)⟩, ?_⟩
      change ∃ W : Nat → Nat → L2.St → Hp → Prop, (∃ m, W 0 m _ (upd H' t (.tup ([y, y - 1, y + 1, 3 * y / 2, 2 * y / 3, 2 * y / 3 + 1, y / 3, y / 3 + 1].map V.int)))) ∧ _
      have xa := eN.trans xt
      generalize upd H' t (.tup ([y, y - 1, y + 1, 3 * y / 2, 2 * y / 3, 2 * y / 3 + 1, y / 3, y / 3 + 1].map V.int)) = HC at xa Tt lt ⊢
      refine for_tup (xs := [y, y - 1, y + 1, 3 * y / 2, 2 * y / 3, 2 * y / 3 + 1, y / 3, y / 3 + 1].map V.int) (fun i σ' H' => (∃ v4, σ' = [some (.ref a), some (.ref d), some (.ref l1), some (.int y), v4, none, none, none]) ∧ ExtN HC H' ∧ Tabs (tabs P1 P2) H') ⟨⟨_, rfl⟩, ExtN.of (fun _ _ e => e), Tt⟩ (fun i σ' H' _ hv => .inl (.of (hv.2.1 _ _ lt fun ps z => by cases z))) ?_ ?_
      · rintro j x σ' H2 hx ⟨⟨v4, rfl⟩, eN2, hT2⟩
        obtain ⟨z, rfl, _⟩ := int_at hx
        refine ⟨_, rfl, _, rfl, l1, .int z, rfl, (xa.trans eN2) _ _ ea (fun ps z => by cases z), .int z, hT2, fun H3 eN3 hT3 => ?_⟩
        refine ⟨_, rfl, iteNo rfl ?_⟩
        refine ⟨_, rfl, _, rfl, l1, .int z, rfl, (xa.trans (eN2.trans eN3)) _ _ ea (fun ps z => by cases z), .int z, hT3, fun H4 eN4 hT4 => ?_⟩
        refine ⟨_, rfl, iteNo rfl ?_⟩
        exact ⟨⟨_, rfl⟩, eN2.trans (eN3.trans eN4), hT4⟩
      · rintro σ' H2 ⟨⟨v4, rfl⟩, eN2, hT2⟩
        exact ⟨⟨_, _, rfl⟩, xa.trans eN2, hT2⟩
    · rintro σ' H' ⟨⟨v3, v4, rfl⟩, eN, hT'⟩
      have ea' := eN _ _ ea fun ps z => by cases z
      have S3 := seqN eN S2
      have de3 := de2.ext eN
      refine ⟨_, rfl, a, _, rfl, .inl S3, _, _, rfl, _, _, rfl, rfl, _, rfl, (by split <;> omega), (by split <;> omega), for_range (fun i σ H' => (∃ v3 v4 v5 v6 v7, σ = [some (.ref a), some (.ref d), some (.ref l1), v3, v4, v5, v6, v7]) ∧ H' l1 = some (.lst (sizesI.map V.int)) ∧ DrawE H' d g ∧ Tabs (tabs P1 P2) H') ⟨⟨_, _, _, _, _, rfl⟩, ea', de3, hT'⟩ ?_ ?_⟩
      · rintro i σ' H0 hi ⟨⟨v3, v4, v5, v6, v7, rfl⟩, l0, de0, T0⟩
        refine ⟨_, rfl, d, g, rfl, de0, fun v H2 od2 deb kp2 => ?_⟩
        refine ⟨_, rfl, d, g, 2740, rfl, deb, by decide, by decide, fun n H3 hn dec kp3 => ⟨_, _, rfl, ?_⟩⟩
        have od3 := od2.kept dec kp3
        have l3 := kp3 _ _ (kp2 _ _ l0 ndl ngl) ndl ngl
        have T3 := tabK deb (tabK de0 T0 kp2) kp3
        refine ⟨_, rfl, _, rfl, _, rfl, d, g, 12, rfl, dec, by decide, by decide, fun n2 H4 hn2 ded kp4 => ⟨_, _, rfl, rfl, ?_⟩⟩
        have od4 := od3.kept ded kp4
        have l4 := kp4 _ _ l3 ndl ngl
        have T4 := tabK dec T3 kp4
        refine ⟨by show 3 ≤ sizeLine; decide, fun t ht => ?_⟩
        have xt := same_new (o := .tup [v, .int (n : Int), .int (1360 + (n2 : Int))]) ht
        have lt : upd H4 t (.tup [v, .int (n : Int), .int (1360 + (n2 : Int))]) t = some (.tup [v, .int (n : Int), .int (1360 + (n2 : Int))]) := upd_same
        have od5 := od4.same xt
        have l5 := xt _ _ l4
        have de5 := ded.same xt
        have T5 := T4.ext xt
        refine ⟨t, rfl, ⟨_, .inl (.of lt)⟩, ?_⟩
        change ∃ W : Nat → Nat → L2.St → Hp → Prop, (∃ m, W 0 m _ (upd H4 t (.tup [v, .int (n : Int), .int (1360 + (n2 : Int))]))) ∧ _
        generalize upd H4 t (.tup [v, .int (n : Int), .int (1360 + (n2 : Int))]) = HC at lt od5 l5 de5 T5 ⊢
        refine for_tup (xs := [v, .int (n : Int), .int (1360 + (n2 : Int))]) (fun i σ' H' => (∃ v3 v4 v5 v6 v7, σ' = [some (.ref a), some (.ref d), some (.ref l1), v3, v4, v5, v6, v7]) ∧ ExtN HC H' ∧ Tabs (tabs P1 P2) H') ⟨⟨_, _, _, _, _, rfl⟩, ExtN.of (fun _ _ e => e), T5⟩ (fun i σ' H' _ hv => .inl (.of (hv.2.1 _ _ lt fun ps z => by cases z))) ?_ ?_
        · rintro j x σ' H2 hx ⟨⟨v3, v4, v5, v6, v7, rfl⟩, eN2, hT2⟩
          have ox : Odd HC x := by
            match j, hx with
            | 0, hx => cases hx; exact od5
            | 1, hx => cases hx; exact .int _
            | 2, hx => cases hx; exact .int _
            | (j + 3), hx => exact absurd hx (by simp)
          refine ⟨_, rfl, _, rfl, l1, x, rfl, eN2 _ _ l5 (fun ps z => by cases z), ox.ext eN2, hT2, fun H3 eN3 hT3 => ?_⟩
          refine ⟨_, rfl, iteNo rfl ?_⟩
          refine ⟨_, rfl, _, rfl, l1, x, rfl, (eN2.trans eN3) _ _ l5 (fun ps z => by cases z), ox.ext (eN2.trans eN3), hT3, fun H4 eN4 hT4 => ?_⟩
          refine ⟨_, rfl, iteNo rfl ?_⟩
          exact ⟨⟨_, _, _, _, _, rfl⟩, eN2.trans (eN3.trans eN4), hT4⟩
        · rintro σ' H2 ⟨⟨v3, v4, v5, v6, v7, rfl⟩, eN2, hT2⟩
          exact ⟨⟨_, _, _, _, _, rfl⟩, eN2 _ _ l5 (fun ps z => by cases z), de5.ext eN2, hT2⟩
      · rintro σ' H0 ⟨⟨v3, v4, v5, v6, v7, rfl⟩, l0, de0, T0⟩
        exact k _
end
end K10
set_option Elab.async false
set_option linter.all false
set_option maxRecDepth 100000
set_option maxHeartbeats 4000000
namespace K10
open PySem L2 Xo Lm LamX
abbrev sBSI : Stmt := inClass (top 4) 0
theorem scBSI : FnScope ["self", "reason"] ["self", "reason"] (defScope sBSI) := ⟨rfl, rfl, rfl, by decide +kernel, rfl, by decide +kernel, by decide +kernel⟩
theorem all_mk {l : PySem.W.OpenLaw} {w : World} {K : PySem.W.Frag} {h : Heap} {mg : Str → Option Value} {fa fW fBt fSz fNs fNn fCp fSf fGr fBg fNx fSd fLs fOd fSr cASr PSr fNr cANr PNr fL C1 C2 C3 C4 T A F o1 o2 o3 o4 o5 o6 o7 o8 o9 mI aS : Addr} (X : K.In h) (G : h.Ns mainGlobals mg) (hfa : mg "law" = some (.ref fa))
    {odW anW : Option Addr} {slW : Array (Option Value)} {ocW kVW dcW pmW ctW : Value} {cdW : Value} {odBt anBt : Option Addr} {slBt : Array (Option Value)} {ocBt kVBt dcBt pmBt ctBt : Value} {cdBt : Value} {odSz anSz : Option Addr} {slSz : Array (Option Value)} {ocSz kVSz dcSz pmSz ctSz : Value} {cdSz : Value} {odNs anNs : Option Addr} {slNs : Array (Option Value)} {ocNs kVNs dcNs pmNs ctNs : Value} {cdNs : Value} {odNn anNn : Option Addr} {slNn : Array (Option Value)} {ocNn kVNn dcNn pmNn ctNn : Value} {cdNn : Value} {odCp anCp : Option Addr} {slCp : Array (Option Value)} {ocCp kVCp dcCp pmCp ctCp : Value} {cdCp : Value} {odSf anSf : Option Addr} {slSf : Array (Option Value)} {ocSf kVSf dcSf pmSf ctSf : Value} {cdSf : Value} {odGr anGr : Option Addr} {slGr : Array (Option Value)} {ocGr kVGr dcGr pmGr ctGr : Value} {cdGr : Value} {odBg anBg : Option Addr} {slBg : Array (Option Value)} {ocBg kVBg dcBg pmBg ctBg : Value} {cdBg : Value} {odNx anNx : Option Addr} {slNx : Array (Option Value)} {ocNx kVNx dcNx pmNx ctNx : Value} {cdNx : Value} {odSd anSd : Option Addr} {slSd : Array (Option Value)} {ocSd kVSd dcSd pmSd ctSd : Value} {cdSd : Value} {odLs anLs : Option Addr} {slLs : Array (Option Value)} {ocLs kVLs dcLs pmLs ctLs : Value} {cdLs : Value} {odOd anOd : Option Addr} {slOd : Array (Option Value)} {ocOd kVOd dcOd pmOd ctOd : Value} {cdOd : Value} {odSr anSr : Option Addr} {slSr : Array (Option Value)} {ocSr kVSr dcSr pmSr ctSr : Value} {xcSr : Value} {xdSr : Option Addr} {xvSr : Array Value} {xsSr : Array (Option Value)} {odNr anNr : Option Addr} {slNr : Array (Option Value)} {ocNr kVNr dcNr pmNr ctNr : Value} {xcNr : Value} {xdNr : Option Addr} {xvNr : Array Value} {xsNr : Array (Option Value)} {odL anL : Option Addr} {slL : Array (Option Value)} {ocL kVL dcL pmL ctL : Value} {cdL : Value} {odI anI : Option Addr} {slI : Array (Option Value)} {ocI kVI dcI pmI ctI : Value} {cdI : Value} {tEMPTY : Tok} {tHOLE : Tok} {tMIN_SIZE : Tok} {tMAX_SIZE : Tok} {its : Array Value} {nS0 : Nat} {dS : Option Addr} {slS : Array (Option Value)}
    (aW : PySem.W.nsIn K mainGlobals "is_whole" = some (some (.ref fW)))
    (lW : K.lookup fW = some ⟨ocW, odW, .func (PySem.W.fnOf "is_whole" "is_whole" (defArgs sWhole) (defBody sWhole) (defScope sWhole) .none kVW dcW pmW anW cdW ctW), slW⟩)
    (cW : PySem.W.codeIn K cdW "is_whole" = true)
    (kW : PySem.W.keepIn K (.ref fW) = true)
    (aBt : PySem.W.nsIn K mainGlobals "is_between" = some (some (.ref fBt)))
    (lBt : K.lookup fBt = some ⟨ocBt, odBt, .func (PySem.W.fnOf "is_between" "is_between" (defArgs sBetween) (defBody sBetween) (defScope sBetween) .none kVBt dcBt pmBt anBt cdBt ctBt), slBt⟩)
    (cBt : PySem.W.codeIn K cdBt "is_between" = true)
    (kBt : PySem.W.keepIn K (.ref fBt) = true)
    (aSz : PySem.W.nsIn K mainGlobals "is_size" = some (some (.ref fSz)))
    (lSz : K.lookup fSz = some ⟨ocSz, odSz, .func (PySem.W.fnOf "is_size" "is_size" (defArgs sSize) (defBody sSize) (defScope sSize) .none kVSz dcSz pmSz anSz cdSz ctSz), slSz⟩)
    (cSz : PySem.W.codeIn K cdSz "is_size" = true)
    (kSz : PySem.W.keepIn K (.ref fSz) = true)
    (aNs : PySem.W.nsIn K mainGlobals "_need_size" = some (some (.ref fNs)))
    (lNs : K.lookup fNs = some ⟨ocNs, odNs, .func (PySem.W.fnOf "_need_size" "_need_size" (defArgs sNeedSize) (defBody sNeedSize) (defScope sNeedSize) .none kVNs dcNs pmNs anNs cdNs ctNs), slNs⟩)
    (cNs : PySem.W.codeIn K cdNs "_need_size" = true)
    (kNs : PySem.W.keepIn K (.ref fNs) = true)
    (aNn : PySem.W.nsIn K mainGlobals "_need_number" = some (some (.ref fNn)))
    (lNn : K.lookup fNn = some ⟨ocNn, odNn, .func (PySem.W.fnOf "_need_number" "_need_number" (defArgs sNeedNumber) (defBody sNeedNumber) (defScope sNeedNumber) .none kVNn dcNn pmNn anNn cdNn ctNn), slNn⟩)
    (cNn : PySem.W.codeIn K cdNn "_need_number" = true)
    (kNn : PySem.W.keepIn K (.ref fNn) = true)
    (aCp : PySem.W.nsIn K mainGlobals "capacity" = some (some (.ref fCp)))
    (lCp : K.lookup fCp = some ⟨ocCp, odCp, .func (PySem.W.fnOf "capacity" "capacity" (defArgs sCap) (defBody sCap) (defScope sCap) .none kVCp dcCp pmCp anCp cdCp ctCp), slCp⟩)
    (cCp : PySem.W.codeIn K cdCp "capacity" = true)
    (kCp : PySem.W.keepIn K (.ref fCp) = true)
    (aSf : PySem.W.nsIn K mainGlobals "size_for" = some (some (.ref fSf)))
    (lSf : K.lookup fSf = some ⟨ocSf, odSf, .func (PySem.W.fnOf "size_for" "size_for" (defArgs sSizeFor) (defBody sSizeFor) (defScope sSizeFor) .none kVSf dcSf pmSf anSf cdSf ctSf), slSf⟩)
    (cSf : PySem.W.codeIn K cdSf "size_for" = true)
    (kSf : PySem.W.keepIn K (.ref fSf) = true)
    (aGr : PySem.W.nsIn K mainGlobals "growth" = some (some (.ref fGr)))
    (lGr : K.lookup fGr = some ⟨ocGr, odGr, .func (PySem.W.fnOf "growth" "growth" (defArgs sGrowth) (defBody sGrowth) (defScope sGrowth) .none kVGr dcGr pmGr anGr cdGr ctGr), slGr⟩)
    (cGr : PySem.W.codeIn K cdGr "growth" = true)
    (kGr : PySem.W.keepIn K (.ref fGr) = true)
    (aBg : PySem.W.nsIn K mainGlobals "_law_begun" = some (some (.ref fBg)))
    (lBg : K.lookup fBg = some ⟨ocBg, odBg, .func (PySem.W.fnOf "_law_begun" "_law_begun" (defArgs sBegun) (defBody sBegun) (defScope sBegun) .none kVBg dcBg pmBg anBg cdBg ctBg), slBg⟩)
    (cBg : PySem.W.codeIn K cdBg "_law_begun" = true)
    (kBg : PySem.W.keepIn K (.ref fBg) = true)
    (aNx : PySem.W.nsIn K mainGlobals "_law_next" = some (some (.ref fNx)))
    (lNx : K.lookup fNx = some ⟨ocNx, odNx, .func (PySem.W.fnOf "_law_next" "_law_next" (defArgs sNext) (defBody sNext) (defScope sNext) .none kVNx dcNx pmNx anNx cdNx ctNx), slNx⟩)
    (cNx : PySem.W.codeIn K cdNx "_law_next" = true)
    (kNx : PySem.W.keepIn K (.ref fNx) = true)
    (aSd : PySem.W.nsIn K mainGlobals "_law_said" = some (some (.ref fSd)))
    (lSd : K.lookup fSd = some ⟨ocSd, odSd, .func (PySem.W.fnOf "_law_said" "_law_said" (defArgs sSaid) (defBody sSaid) (defScope sSaid) .none kVSd dcSd pmSd anSd cdSd ctSd), slSd⟩)
    (cSd : PySem.W.codeIn K cdSd "_law_said" = true)
    (kSd : PySem.W.keepIn K (.ref fSd) = true)
    (aLs : PySem.W.nsIn K mainGlobals "_law_sizes" = some (some (.ref fLs)))
    (lLs : K.lookup fLs = some ⟨ocLs, odLs, .func (PySem.W.fnOf "_law_sizes" "_law_sizes" (defArgs sSizes) (defBody sSizes) (defScope sSizes) .none kVLs dcLs pmLs anLs cdLs ctLs), slLs⟩)
    (cLs : PySem.W.codeIn K cdLs "_law_sizes" = true)
    (kLs : PySem.W.keepIn K (.ref fLs) = true)
    (aOd : PySem.W.nsIn K mainGlobals "_law_odd" = some (some (.ref fOd)))
    (lOd : K.lookup fOd = some ⟨ocOd, odOd, .func (PySem.W.fnOf "_law_odd" "_law_odd" (defArgs sOdd) (defBody sOdd) (defScope sOdd) .none kVOd dcOd pmOd anOd cdOd ctOd), slOd⟩)
    (cOd : PySem.W.codeIn K cdOd "_law_odd" = true)
    (kOd : PySem.W.keepIn K (.ref fOd) = true)
    (aSr : PySem.W.nsIn K mainGlobals "_law_size_right" = some (some (.ref fSr)))
    (lSr : K.lookup fSr = some ⟨ocSr, odSr, .func (PySem.W.fnOf "_law_size_right" "_law_size_right" (defArgs sSR) (defBody sSR) (defScope sSR) .none kVSr dcSr pmSr anSr (.ref cASr) ctSr), slSr⟩)
    (cSr : PySem.W.codeIn K (.ref cASr) "_law_size_right" = true)
    (kSr : PySem.W.keepIn K (.ref fSr) = true)
    (xSr : K.lookup cASr = some ⟨xcSr, xdSr, .fields xvSr, xsSr⟩)
    (ySr : xvSr[11]? = some (.ref PSr))
    (hSr : PySem.W.codeHdIn K cASr PSr = true)
    (nSr : K.lookup PSr = none)
    (tSr : h.get? PSr = some { cls := .none, data := .fields #[] })
    (aNr : PySem.W.nsIn K mainGlobals "_law_number_right" = some (some (.ref fNr)))
    (lNr : K.lookup fNr = some ⟨ocNr, odNr, .func (PySem.W.fnOf "_law_number_right" "_law_number_right" (defArgs sNR) (defBody sNR) (defScope sNR) .none kVNr dcNr pmNr anNr (.ref cANr) ctNr), slNr⟩)
    (cNr : PySem.W.codeIn K (.ref cANr) "_law_number_right" = true)
    (kNr : PySem.W.keepIn K (.ref fNr) = true)
    (xNr : K.lookup cANr = some ⟨xcNr, xdNr, .fields xvNr, xsNr⟩)
    (yNr : xvNr[11]? = some (.ref PNr))
    (hNr : PySem.W.codeHdIn K cANr PNr = true)
    (nNr : K.lookup PNr = none)
    (tNr : h.get? PNr = some { cls := .none, data := .fields #[] })
    (aL : PySem.W.nsIn K mainGlobals "law" = some (some (.ref fL)))
    (lL : K.lookup fL = some ⟨ocL, odL, .func (PySem.W.fnOf "law" "law" (defArgs sLaw) (defBody sLaw) (defScope sLaw) .none kVL dcL pmL anL cdL ctL), slL⟩)
    (cL : PySem.W.codeIn K cdL "law" = true)
    (kL : PySem.W.keepIn K (.ref fL) = true)
    (gBadCode : PySem.W.nsIn K mainGlobals "BadCode" = some (some (.ref C1)))
    (gBadSize : PySem.W.nsIn K mainGlobals "BadSize" = some (some (.ref C2)))
    (gNoEntry : PySem.W.nsIn K mainGlobals "NoEntry" = some (some (.ref C3)))
    (gTooLarge : PySem.W.nsIn K mainGlobals "TooLarge" = some (some (.ref C4)))
    (gTableError : PySem.W.nsIn K mainGlobals "TableError" = some (some (.ref T)))
    (gAbsent : PySem.W.nsIn K mainGlobals "Absent" = some (some (.ref A)))
    (gFault : PySem.W.nsIn K mainGlobals "Fault" = some (some (.ref F)))
    (gBadKey : PySem.W.nsIn K mainGlobals "BadKey" = some (some (.ref o1)))
    (gBadLayout : PySem.W.nsIn K mainGlobals "BadLayout" = some (some (.ref o2)))
    (gBadPairs : PySem.W.nsIn K mainGlobals "BadPairs" = some (some (.ref o3)))
    (gBadPicture : PySem.W.nsIn K mainGlobals "BadPicture" = some (some (.ref o4)))
    (gBadStep : PySem.W.nsIn K mainGlobals "BadStep" = some (some (.ref o5)))
    (gBadView : PySem.W.nsIn K mainGlobals "BadView" = some (some (.ref o6)))
    (gMissing : PySem.W.nsIn K mainGlobals "Missing" = some (some (.ref o7)))
    (gEmpty : PySem.W.nsIn K mainGlobals "Empty" = some (some (.ref o8)))
    (gLocked : PySem.W.nsIn K mainGlobals "Locked" = some (some (.ref o9)))
    (u1S : PySem.W.excInitIn K C2 [.type "ValueError", .type "Exception", .type "BaseException", .type "object"] "ValueError.__new__" = true)
    (u2S : PySem.W.excOver K C2 [.type "ValueError", .type "Exception", .type "BaseException", .type "object"] = true)
    (u3S : PySem.W.hasDictIn K C2 = true)
    (u4S : PySem.W.findIn K (.ref C2) "__setattr__" = some (some (.builtin "object.__setattr__")))
    (u5S : PySem.W.findIn K (.ref C2) "__getattribute__" = some (some (.builtin "BaseException.__getattribute__")))
    (u6S : PySem.W.findIn K (.ref C2) "__getattr__" = some none)
    (u7S : PySem.W.subIn K (.ref C2) (.type "BaseException") = some true)
    (u8S : PySem.W.typeIn K (.ref C2) = some (.type "type"))
    (u9S : PySem.W.keepIn K (.ref C2) = true)
    (v1S : PySem.W.findIn K (.ref C2) "__class__" = some (some (.builtin "object.__class__")))
    (v2S : PySem.W.specialIn K (.builtin "object.__class__") "__get__" = some (some (.builtin "getset_descriptor.__get__")))
    (v3S : PySem.W.takesIn K (.builtin "object.__class__") = some true)
    (v4S : PySem.W.mroIn K C2 (.type "object") = some true)
    (aI : PySem.W.findIn K (.ref C2) "__init__" = some (some (.ref mI)))
    (iI : PySem.W.typeIn K (.ref mI) = some (.type "function"))
    (jI : PySem.W.findIn K (.ref C2) "reason" = some none)
    (lI : K.lookup mI = some ⟨ocI, odI, .func (PySem.W.fnOf "__init__" "BadSize.__init__" (defArgs sBSI) (defBody sBSI) (defScope sBSI) .none kVI dcI pmI anI cdI ctI), slI⟩)
    (cI : PySem.W.codeIn K cdI "BadSize.__init__" = true)
    (kI : PySem.W.keepIn K (.ref mI) = true)
    (k0 : PySem.W.kitOne K (.ref C2) (.ref C1) = some false)
    (k1 : PySem.W.kitOne K (.ref C2) (.ref C2) = some true)
    (k2 : PySem.W.kitOne K (.ref C2) (.ref C3) = some false)
    (k3 : PySem.W.kitOne K (.ref C2) (.ref C4) = some false)
    (ko : PySem.W.kitAny K (.ref C2) [.ref o1, .ref o2, .ref o3, .ref o4, .ref o5, .ref o6, .ref o7, .ref o8, .ref o9] = some false)
    (kbV : PySem.W.kitOne K (.ref C2) (.type "ValueError") = some true)
    (kbL : PySem.W.kitOne K (.ref C2) (.type "LookupError") = some false)
    (kbR : PySem.W.kitOne K (.ref C2) (.type "RuntimeError") = some false)
    (kx : PySem.W.exmAny K (.ref C2) [.ref T, .ref A, .ref F] = some true)
    (zisinstance : PySem.W.nsIn K mainGlobals "isinstance" = some none)
    (zint : PySem.W.nsIn K mainGlobals "int" = some none)
    (zbool : PySem.W.nsIn K mainGlobals "bool" = some none)
    (zlist : PySem.W.nsIn K mainGlobals "list" = some none)
    (zrange : PySem.W.nsIn K mainGlobals "range" = some none)
    (zlen : PySem.W.nsIn K mainGlobals "len" = some none)
    (zmin : PySem.W.nsIn K mainGlobals "min" = some none)
    (zmax : PySem.W.nsIn K mainGlobals "max" = some none)
    (zsorted : PySem.W.nsIn K mainGlobals "sorted" = some none)
    (zenumerate : PySem.W.nsIn K mainGlobals "enumerate" = some none)
    (zrepr : PySem.W.nsIn K mainGlobals "repr" = some none)
    (zValueError : PySem.W.nsIn K mainGlobals "ValueError" = some none)
    (zLookupError : PySem.W.nsIn K mainGlobals "LookupError" = some none)
    (zRuntimeError : PySem.W.nsIn K mainGlobals "RuntimeError" = some none)
    (gEMPTY : PySem.W.nsIn K mainGlobals "EMPTY" = some (some (.int (-1) tEMPTY)))
    (gHOLE : PySem.W.nsIn K mainGlobals "HOLE" = some (some (.int (-2) tHOLE)))
    (gMIN_SIZE : PySem.W.nsIn K mainGlobals "MIN_SIZE" = some (some (.int 8 tMIN_SIZE)))
    (gMAX_SIZE : PySem.W.nsIn K mainGlobals "MAX_SIZE" = some (some (.int 4096 tMAX_SIZE)))
    (gS : PySem.W.nsIn K mainGlobals "SIZES" = some (some (.ref aS)))
    (lS : K.lookup aS = some ⟨.type "tuple", dS, .seq its nS0, slS⟩)
    (vS : Vals sizesV its.toList)
    (zS : its.size ≤ sizeLine)
    (nP : PNr ≠ PSr) :
    Gd.LawAtG l w K 9 63 "script" mg fa h := by
  have FW := fun_mk (st := sWhole) lW cW kW
  have dW : Df K mg "is_whole" "is_whole" sWhole ["thing"] fW _ := ⟨FW, FW.binds (ps := ["thing"]) (fun _ _ _ _ _ _ us hl => match us, hl with | [_], _ => rfl), PySem.W.mg_of X G aW⟩
  have FBt := fun_mk (st := sBetween) lBt cBt kBt
  have dBt : Df K mg "is_between" "is_between" sBetween ["thing", "low", "high"] fBt _ := ⟨FBt, FBt.binds (ps := ["thing", "low", "high"]) (fun _ _ _ _ _ _ us hl => match us, hl with | [_, _, _], _ => rfl), PySem.W.mg_of X G aBt⟩
  have FSz := fun_mk (st := sSize) lSz cSz kSz
  have dSz : Df K mg "is_size" "is_size" sSize ["thing"] fSz _ := ⟨FSz, FSz.binds (ps := ["thing"]) (fun _ _ _ _ _ _ us hl => match us, hl with | [_], _ => rfl), PySem.W.mg_of X G aSz⟩
  have FNs := fun_mk (st := sNeedSize) lNs cNs kNs
  have dNs : Df K mg "_need_size" "_need_size" sNeedSize ["size"] fNs _ := ⟨FNs, FNs.binds (ps := ["size"]) (fun _ _ _ _ _ _ us hl => match us, hl with | [_], _ => rfl), PySem.W.mg_of X G aNs⟩
  have FNn := fun_mk (st := sNeedNumber) lNn cNn kNn
  have dNn : Df K mg "_need_number" "_need_number" sNeedNumber ["many", "most"] fNn _ := ⟨FNn, FNn.binds (ps := ["many", "most"]) (fun _ _ _ _ _ _ us hl => match us, hl with | [_, _], _ => rfl), PySem.W.mg_of X G aNn⟩
  have FCp := fun_mk (st := sCap) lCp cCp kCp
  have dCp : Df K mg "capacity" "capacity" sCap ["size"] fCp _ := ⟨FCp, FCp.binds (ps := ["size"]) (fun _ _ _ _ _ _ us hl => match us, hl with | [_], _ => rfl), PySem.W.mg_of X G aCp⟩
  have FSf := fun_mk (st := sSizeFor) lSf cSf kSf
  have dSf : Df K mg "size_for" "size_for" sSizeFor ["many"] fSf _ := ⟨FSf, FSf.binds (ps := ["many"]) (fun _ _ _ _ _ _ us hl => match us, hl with | [_], _ => rfl), PySem.W.mg_of X G aSf⟩
  have FGr := fun_mk (st := sGrowth) lGr cGr kGr
  have dGr : Df K mg "growth" "growth" sGrowth ["live"] fGr _ := ⟨FGr, FGr.binds (ps := ["live"]) (fun _ _ _ _ _ _ us hl => match us, hl with | [_], _ => rfl), PySem.W.mg_of X G aGr⟩
  have FBg := fun_mk (st := sBegun) lBg cBg kBg
  have dBg : Df K mg "_law_begun" "_law_begun" sBegun ["script"] fBg _ := ⟨FBg, FBg.binds (ps := ["script"]) (fun _ _ _ _ _ _ us hl => match us, hl with | [_], _ => rfl), PySem.W.mg_of X G aBg⟩
  have FNx := fun_mk (st := sNext) lNx cNx kNx
  have dNx : Df K mg "_law_next" "_law_next" sNext ["draw", "below"] fNx _ := ⟨FNx, FNx.binds (ps := ["draw", "below"]) (fun _ _ _ _ _ _ us hl => match us, hl with | [_, _], _ => rfl), PySem.W.mg_of X G aNx⟩
  have dSd : Ds K mg fSd := ⟨PySem.W.mg_of X G aSd, kSd, ⟨_, _, _, _, _, _, _, _, _, _, lSd, cSd, .all (fun us hl => match us, hl with | [_], _ => rfl)⟩⟩
  have FLs := fun_mk (st := sSizes) lLs cLs kLs
  have dLs : Df K mg "_law_sizes" "_law_sizes" sSizes [] fLs _ := ⟨FLs, FLs.binds (ps := []) (fun _ _ _ _ _ _ us hl => match us, hl with | [], _ => rfl), PySem.W.mg_of X G aLs⟩
  have FOd := fun_mk (st := sOdd) lOd cOd kOd
  have dOd : Df K mg "_law_odd" "_law_odd" sOdd ["draw"] fOd _ := ⟨FOd, FOd.binds (ps := ["draw"]) (fun _ _ _ _ _ _ us hl => match us, hl with | [_], _ => rfl), PySem.W.mg_of X G aOd⟩
  have dSr : Dc K mg "_law_size_right" sSR ["sizes", "given"] fSr cASr _ := ⟨⟨_, _, _, _, _, _, _, _, rfl, lSr, cSr⟩, kSr, .all (fun us hl => match us, hl with | [_, _], _ => rfl), PySem.W.mg_of X G aSr⟩
  have dNr : Dc K mg "_law_number_right" sNR ["sizes", "number"] fNr cANr _ := ⟨⟨_, _, _, _, _, _, _, _, rfl, lNr, cNr⟩, kNr, .all (fun us hl => match us, hl with | [_, _], _ => rfl), PySem.W.mg_of X G aNr⟩
  have FL := fun_mk (st := sLaw) lL cL kL
  have dL : Df K mg "law" "law" sLaw ["script"] fL _ := ⟨FL, FL.binds (ps := ["script"]) (fun _ _ _ _ _ _ us hl => match us, hl with | [_], _ => rfl), PySem.W.mg_of X G aL⟩
  have wS : Xo.XC K C2 := ⟨⟨"ValueError", _, _, _, PySem.F.excBase_ValueError, PySem.F.store_ValueError, u1S, u2S⟩, u3S, u4S, u5S, u6S, u7S, u8S, u9S⟩
  have eS : ExcC K C2 := ⟨u5S, u6S, u7S, u3S, v1S, v2S, v3S, v4S⟩
  have e := hfa.symm.trans (PySem.W.mg_of X G aL)
  cases e
  have B : Bl mg := ⟨PySem.W.mg_none_of X G zisinstance, PySem.W.mg_none_of X G zint, PySem.W.mg_none_of X G zbool, PySem.W.mg_none_of X G zlist, PySem.W.mg_none_of X G zrange, PySem.W.mg_none_of X G zlen, PySem.W.mg_none_of X G zmin, PySem.W.mg_none_of X G zmax, PySem.W.mg_none_of X G zsorted, PySem.W.mg_none_of X G zenumerate, PySem.W.mg_none_of X G zrepr⟩
  have N : Nm mg C1 C2 C3 C4 T A F o1 o2 o3 o4 o5 o6 o7 o8 o9 := ⟨PySem.W.mg_of X G gBadCode, PySem.W.mg_of X G gBadSize, PySem.W.mg_of X G gNoEntry, PySem.W.mg_of X G gTooLarge, PySem.W.mg_of X G gTableError, PySem.W.mg_of X G gAbsent, PySem.W.mg_of X G gFault, PySem.W.mg_of X G gBadKey, PySem.W.mg_of X G gBadLayout, PySem.W.mg_of X G gBadPairs, PySem.W.mg_of X G gBadPicture, PySem.W.mg_of X G gBadStep, PySem.W.mg_of X G gBadView, PySem.W.mg_of X G gMissing, PySem.W.mg_of X G gEmpty, PySem.W.mg_of X G gLocked, PySem.W.mg_none_of X G zValueError, PySem.W.mg_none_of X G zLookupError, PySem.W.mg_none_of X G zRuntimeError, PySem.W.mg_none_of X G zisinstance⟩
  have R : Row K C2 C1 C2 C3 C4 T A F [o1, o2, o3, o4, o5, o6, o7, o8, o9] false true false false true false false := ⟨k0, k1, k2, k3, ko, kbV, kbL, kbR, kx, eS, wS⟩
  have tS : TupK K aS sizesV := ⟨_, its, nS0, lS, rfl, rfl, zS, vS⟩
  have FI := fun_mk (st := sBSI) lI cI kI
  have bI := FI.binds (ps := ["self", "reason"]) (fun _ _ _ _ _ _ us hl => match us, hl with | [_, _], _ => rfl)
  refine ⟨PySem.W.fnOf "law" "law" (defArgs sLaw) (defBody sLaw) (defScope sLaw) .none kVL dcL pmL anL cdL ctL, [(cASr, PSr), (cANr, PNr)], spLaw K PSr PNr, ?_, ?_, ?_, fun s v => .of_eq rfl, fun H a ns hl hH hS => ⟨a, ns, rfl, hS, hl, ?_, fun _ => rfl⟩, fun base hb hg hT => ?_⟩
  · exact List.forall_mem_cons.mpr ⟨tSr, List.forall_mem_cons.mpr ⟨tNr, fun _ z => nomatch z⟩⟩
  · exact List.forall_mem_cons.mpr ⟨nSr, List.forall_mem_cons.mpr ⟨nNr, fun _ z => nomatch z⟩⟩
  · exact List.forall_mem_cons.mpr ⟨PySem.W.codeHd_of_K X hSr, List.forall_mem_cons.mpr ⟨PySem.W.codeHd_of_K X hNr, fun _ z => nomatch z⟩⟩
  · exact List.forall_mem_cons.mpr ⟨.nil (hH _ (List.mem_cons_self ..)), List.forall_mem_cons.mpr ⟨.nil (hH _ (List.mem_cons_of_mem _ (List.mem_cons_self ..))), fun _ z => nomatch z⟩⟩
  have x2 : XK l.prog w K mg base "BadSize" C2 "reason" := ⟨PySem.W.mg_of X G gBadSize, wS, jI, ⟨mI, _, aI, iI, bI, Xo.ok_xinit FI scBSI rfl (by decide) (by decide)⟩⟩
  have gW := ok_whole (P := l.prog) (w := w) (base := base) dW B
  have gBt := ok_between dBt dW gW
  have gSz := ok_size dSz dW gW (PySem.W.mg_of X G gS) tS
  have gNs := ok_needSize dNs dSz gSz x2
  have gNn := ok_needNumber dNn dBt gBt x2
  have gCp := ok_cap dCp dNs gNs
  have gSf := ok_sizeFor dSf B dNn gNn dCp gCp (PySem.W.mg_of X G gMAX_SIZE) (PySem.W.mg_of X G gS) tS
  have gGr := ok_growth dGr B dNn gNn (PySem.W.mg_of X G gMAX_SIZE) (PySem.W.mg_of X G gS) tS
  have gBg := ok_begun (P := l.prog) (w := w) (base := base) dBg B
  have gNx := ok_next (P := l.prog) (w := w) (base := base) dNx B
  have gLs := ok_sizes (P := l.prog) (w := w) (base := base) dLs
  have gOd := ok_odd dOd dNx gNx
  have tb1 : TabB base mg cASr PSr := hT _ (List.mem_cons_self ..)
  have tb2 : TabB base mg cANr PNr := hT _ (List.mem_cons_of_mem _ (List.mem_cons_self ..))
  have gSr := ok_sr dSr B dSd N dSz gSz (Kw.kb1 (fun u => rfl) (fun u => rfl)) dCp gCp (Kw.kb1 (fun u => rfl) (fun u => rfl)) tb1 nP R jI
  have gNr := ok_nr dNr B dSd N dSf gSf (Kw.kb1 (fun u => rfl) (fun u => rfl)) dGr gGr (Kw.kb1 (fun u => rfl) (fun u => rfl)) tb2 nP R jI
  exact ok_law (m1 := fa) (m2 := fa) (m3 := fa) (m4 := fa) FL B nP (PySem.W.mg_of X G gEMPTY) (PySem.W.mg_of X G gHOLE) (PySem.W.mg_of X G gMIN_SIZE) (PySem.W.mg_of X G gMAX_SIZE) dBg gBg dNx gNx dLs gLs dOd gOd dSr gSr dNr gNr

theorem walk {l : PySem.W.OpenLaw} {q : Program} {loose : List Str} {XP : (Str → Option Value) → Heap → Prop} {YP : World → Heap → Prop} {d : DefRec} {K : Params → PySem.W.Frag} (hn : l.most = some 63) (hdf : d.params.defaults = [])
    (hY : ∀ (w : World) (h : Heap), YP w h → (K w.params).In h)
    (F : ∀ (w : World) (mg : Str → Option Value) (fa : Addr) (h : Heap), YP w h → (K w.params).In h → h.Ns mainGlobals mg → mg d.name = some (.ref fa) → Gd.LawAtG l w (K w.params) 9 63 "script" mg fa h) :
    PySem.W.WalkO q loose XP YP l.row.toRowW d [] (fun f vs => PySem.call f vs) := Gd.walk_ofG hn (by decide) hdf ⟨rfl, by decide, by decide⟩ hY F
end K10
open PySem PySem.W PyProof.Rows
set_option maxRecDepth 100000 in
set_option maxHeartbeats 0 in
theorem PySem.Challenge.cw_entryhall_k10_sizes_and_capacities_holds : PySem.Challenge.rw_entryhall_k10_sizes_and_capacities.Holds := by
  w_on; o_law; k_head; (case hw => w_witness2)
  k_fill
  refine K10.walk (l := PySem.Challenge.rw_entryhall_k10_sizes_and_capacities) rfl rfl (fun w h Y => PySem.W.km_in_of Y) ?F
  case F =>
    intro w mg fa h Y KX G hmg
    have hT8 := PySem.W.km_tabs_of Y
    refine' K10.all_mk KX G hmg ?aW ?lW ?cW ?kW ?aBt ?lBt ?cBt ?kBt ?aSz ?lSz ?cSz ?kSz ?aNs ?lNs ?cNs ?kNs ?aNn ?lNn ?cNn ?kNn ?aCp ?lCp ?cCp ?kCp ?aSf ?lSf ?cSf ?kSf ?aGr ?lGr ?cGr ?kGr ?aBg ?lBg ?cBg ?kBg ?aNx ?lNx ?cNx ?kNx ?aSd ?lSd ?cSd ?kSd ?aLs ?lLs ?cLs ?kLs ?aOd ?lOd ?cOd ?kOd ?aSr ?lSr ?cSr ?kSr ?xSr ?ySr ?hSr ?nSr ?tSr ?aNr ?lNr ?cNr ?kNr ?xNr ?yNr ?hNr ?nNr ?tNr ?aL ?lL ?cL ?kL ?gBadCode ?gBadSize ?gNoEntry ?gTooLarge ?gTableError ?gAbsent ?gFault ?gBadKey ?gBadLayout ?gBadPairs ?gBadPicture ?gBadStep ?gBadView ?gMissing ?gEmpty ?gLocked ?u1S ?u2S ?u3S ?u4S ?u5S ?u6S ?u7S ?u8S ?u9S ?v1S ?v2S ?v3S ?v4S ?aI ?iI ?jI ?lI ?cI ?kI ?k0 ?k1 ?k2 ?k3 ?ko ?kbV ?kbL ?kbR ?kx ?zisinstance ?zint ?zbool ?zlist ?zrange ?zlen ?zmin ?zmax ?zsorted ?zenumerate ?zrepr ?zValueError ?zLookupError ?zRuntimeError ?gEMPTY ?gHOLE ?gMIN_SIZE ?gMAX_SIZE ?gS ?lS ?vS ?zS ?nP
    (case aW => k_is)
    (case lW => k_is)
    (case cW => k_is)
    (case kW => k_is)
    (case aBt => k_is)
    (case lBt => k_is)
    (case cBt => k_is)
    (case kBt => k_is)
    (case aSz => k_is)
    (case lSz => k_is)
    (case cSz => k_is)
    (case kSz => k_is)
    (case aNs => k_is)
    (case lNs => k_is)
    (case cNs => k_is)
    (case kNs => k_is)
    (case aNn => k_is)
    (case lNn => k_is)
    (case cNn => k_is)
    (case kNn => k_is)
    (case aCp => k_is)
    (case lCp => k_is)
    (case cCp => k_is)
    (case kCp => k_is)
    (case aSf => k_is)
    (case lSf => k_is)
    (case cSf => k_is)
    (case kSf => k_is)
    (case aGr => k_is)
    (case lGr => k_is)
    (case cGr => k_is)
    (case kGr => k_is)
    (case aBg => k_is)
    (case lBg => k_is)
    (case cBg => k_is)
    (case kBg => k_is)
    (case aNx => k_is)
    (case lNx => k_is)
    (case cNx => k_is)
    (case kNx => k_is)
    (case aSd => k_is)
    (case lSd => k_is)
    (case cSd => k_is)
    (case kSd => k_is)
    (case aLs => k_is)
    (case lLs => k_is)
    (case cLs => k_is)
    (case kLs => k_is)
    (case aOd => k_is)
    (case lOd => k_is)
    (case cOd => k_is)
    (case kOd => k_is)
    (case aSr => k_is)
    (case lSr => k_is)
    (case cSr => k_is)
    (case kSr => k_is)
    (case xSr => k_is)
    (case ySr => exact rfl)
    (case hSr => kernel_rfl)
    (case nSr => kernel_rfl)
    (case tSr => exact hT8 _ (by simp))
    (case aNr => k_is)
    (case lNr => k_is)
    (case cNr => k_is)
    (case kNr => k_is)
    (case xNr => k_is)
    (case yNr => exact rfl)
    (case hNr => kernel_rfl)
    (case nNr => kernel_rfl)
    (case tNr => exact hT8 _ (by simp))
    (case aL => k_is)
    (case lL => k_is)
    (case cL => k_is)
    (case kL => k_is)
    (case gBadCode => k_is)
    (case gBadSize => k_is)
    (case gNoEntry => k_is)
    (case gTooLarge => k_is)
    (case gTableError => k_is)
    (case gAbsent => k_is)
    (case gFault => k_is)
    (case gBadKey => k_is)
    (case gBadLayout => k_is)
    (case gBadPairs => k_is)
    (case gBadPicture => k_is)
    (case gBadStep => k_is)
    (case gBadView => k_is)
    (case gMissing => k_is)
    (case gEmpty => k_is)
    (case gLocked => k_is)
    (case u1S => kx_is)
    (case u2S => kx_is)
    (case u3S => k_is)
    (case u4S => k_is)
    (case u5S => k_is)
    (case u6S => k_is)
    (case u7S => k_is)
    (case u8S => k_is)
    (case u9S => k_is)
    (case v1S => k_is)
    (case v2S => k_is)
    (case v3S => k_is)
    (case v4S => k_is)
    (case aI => k_is)
    (case iI => k_is)
    (case jI => k_is)
    (case lI => k_is)
    (case cI => k_is)
    (case kI => k_is)
    (case k0 => kit_is)
    (case k1 => kit_is)
    (case k2 => kit_is)
    (case k3 => kit_is)
    (case ko => kit_is)
    (case kbV => kit_is)
    (case kbL => kit_is)
    (case kbR => kit_is)
    (case kx => kernel_rfl)
    (case zisinstance => k_is)
    (case zint => k_is)
    (case zbool => k_is)
    (case zlist => k_is)
    (case zrange => k_is)
    (case zlen => k_is)
    (case zmin => k_is)
    (case zmax => k_is)
    (case zsorted => k_is)
    (case zenumerate => k_is)
    (case zrepr => k_is)
    (case zValueError => k_is)
    (case zLookupError => k_is)
    (case zRuntimeError => k_is)
    (case gEMPTY => k_is)
    (case gHOLE => k_is)
    (case gMIN_SIZE => k_is)
    (case gMAX_SIZE => k_is)
    (case gS => k_is)
    (case lS => k_is)
    (case vS => exact .cons ⟨_, rfl⟩ (.cons ⟨_, rfl⟩ (.cons ⟨_, rfl⟩ (.cons ⟨_, rfl⟩ (.cons ⟨_, rfl⟩ (.cons ⟨_, rfl⟩ (.cons ⟨_, rfl⟩ (.cons ⟨_, rfl⟩ (.cons ⟨_, rfl⟩ (.cons ⟨_, rfl⟩ (.nil)))))))))))
    (case zS => decide)
    (case nP => decide)
#print axioms PySem.Challenge.cw_entryhall_k10_sizes_and_capacities_holds
