import PyProof.Rows.All
import Wide.All
import OpenK.AllK
import Wide.FinOn
import PyProof.GenQ
import HandS.ForMost
import HandS.GenList
import HandS.IsInst
import HandS.Property
import HandS.Style
import HandS.Flow
import HandS.Wide
import HandS.Deep
import HandS.SetFor
import HandS.Small
import HandS.More
import PySem.Challenge.RW_entryhall_k14_whole_placed_indexes_are_f
set_option Elab.async false
set_option linter.all false
set_option maxRecDepth 100000
set_option maxHeartbeats 1000000
/-! Fk: a run that wakes none of the generators that slept when it began leaves them as they were. Those that sleep are replaced by ones that look alike and cannot be woken;
a run over the replaced ones is a run over the real ones. -/
namespace Fk
open PySem
open Sem (wp)

/-- looks alike, cannot be woken -/
def fk : GenState → GenState
  | .suspended _ l c p fs cl => .suspended (fun _ => .unsupported "") l c p fs cl
  | x => x
theorem fk_seen (x : GenState) : (fk x).seen = x.seen := by cases x <;> rfl
theorem fk_bare (x : GenState) : (fk x).bare = x.bare := by cases x <;> rfl
def isSusp : GenState → Bool
  | .suspended .. => true
  | _ => false
def plainG : GenState → Prop
  | .suspended _ _ _ _ fs _ => splitAtGen fs = none
  | _ => True
def plainE : End → Prop
  | .susp _ _ _ _ _ _ fs => splitAtGen fs = none
  | .ret _ => True
theorem plainG_end {e : End} (h : plainE e) : plainG e.genState := by cases e <;> first | exact h | trivial
/-- F: which of them are replaced, by their places: what they are in truth. a: the replaced ones; b: the real ones -/
structure Rel (F : Nat → Option GenState) (a b : Array GenState) : Prop where
  size : b.size = a.size
  fake : ∀ (i : Nat) x, F i = some x → isSusp x = true ∧ a[i]? = some (fk x) ∧ b[i]? = some x
  same : ∀ (i : Nat), F i = none → b[i]? = a[i]?
  plain : ∀ (i : Nat) x, F i = none → a[i]? = some x → plainG x
variable {F : Nat → Option GenState} {a b : Array GenState}
theorem Rel.push (h : Rel F a b) (c : Code) : Rel F (a.push (.fresh c)) (b.push (.fresh c)) := by
  refine ⟨by simp [h.size], fun i x e => ?_, fun i e => ?_, fun i x e hx => ?_⟩
  · obtain ⟨q, k, l⟩ := h.fake i x e
    have l1 : i < a.size := (Array.getElem?_eq_some_iff.mp k).1
    have l2 : i < b.size := (Array.getElem?_eq_some_iff.mp l).1
    exact ⟨q, by rw [Array.getElem?_push, if_neg (by omega)]; exact k, by rw [Array.getElem?_push, if_neg (by omega)]; exact l⟩
  · rw [Array.getElem?_push, Array.getElem?_push, h.size, h.same i e]
  · rw [Array.getElem?_push] at hx
    split at hx
    · cases hx; trivial
    · exact h.plain i x e hx
theorem Rel.set (h : Rel F a b) {g : Nat} {x : GenState} (hF : F g = none) (hx : plainG x) : Rel F (a.setIfInBounds g x) (b.setIfInBounds g x) := by
  refine ⟨by simp [h.size], fun i y e => ?_, fun i e => ?_, fun i y e hy => ?_⟩
  · obtain ⟨q, k, l⟩ := h.fake i y e
    have ne : g ≠ i := fun z => by rw [z, e] at hF; cases hF
    exact ⟨q, by rw [Array.getElem?_setIfInBounds_ne ne]; exact k, by rw [Array.getElem?_setIfInBounds_ne ne]; exact l⟩
  · rw [Array.getElem?_setIfInBounds, Array.getElem?_setIfInBounds, h.size, h.same i e]
  · rw [Array.getElem?_setIfInBounds] at hy
    split at hy
    · split at hy
      · cases hy; exact hx
      · cases hy
    · exact h.plain i y e hy
theorem plain_app {a b : List Frame} (ha : splitAtGen a = none) (hb : splitAtGen b = none) : splitAtGen (a ++ b) = none := by
  induction a with
  | nil => exact hb
  | cons f t ih =>
    cases f with
    | ret k h g l c p kp =>
      have e : (splitAtGen t).map (fun x => (Frame.ret k h g l c p kp :: x.1, x.2.1, x.2.2)) = none := ha
      have e' : splitAtGen t = none := by
        cases q : splitAtGen t with
        | none => rfl
        | some z => rw [q] at e; cases e
      show (splitAtGen (t ++ b)).map (fun x => (Frame.ret k h g l c p kp :: x.1, x.2.1, x.2.2)) = none
      rw [ih e']; rfl
    | gen g k l c p => exact absurd (show some _ = none from ha) (fun z => nomatch z)
theorem plain_tail {k h g l c p kp} {fs : List Frame} (e : splitAtGen (.ret k h g l c p kp :: fs) = none) : splitAtGen fs = none := by
  have e : (splitAtGen fs).map (fun x => (Frame.ret k h g l c p kp :: x.1, x.2.1, x.2.2)) = none := e
  cases q : splitAtGen fs with
  | none => rfl
  | some z => rw [q] at e; cases e
variable {M : Model}
theorem no_unsup {Γ : Ctx} {p : Pos} {w : String} {fs : List Frame} {s s' : Shared} {e : End} (h : Runs M Γ p (.unsupported w) fs s e s') : False := by
  generalize ht : (Sem.unsupported w : Sem PySem.Fin) = t at h
  induction h <;> first | (cases ht; done) | (rename_i ih _; exact ih ht) | (rename_i ih _ _; exact ih ht) | (rename_i ih; exact ih ht)
/-- with other generators -/
abbrev gw (s : Shared) (G : Array GenState) : Shared := { s with gens := G }
/-- the run over the real ones -/
theorem runs_fk {Γ : Ctx} {p : Pos} {t : Sem PySem.Fin} {fs : List Frame} {s s' : Shared} {e : End} (h : Runs M Γ p t fs s e s') : splitAtGen fs = none → ∀ G, Rel F s.gens G →
    ∃ G', Runs M Γ p t fs (gw s G) e (gw s' G') ∧ Rel F s'.gens G' ∧ plainE e := by
  induction h with
  | done => intro _ G R; exact ⟨G, .done, R, trivial⟩
  | raise => intro _ G R; exact ⟨G, .raise, R, trivial⟩
  | again hq _ ih => intro hf G R; obtain ⟨r', h1, h2, h3⟩ := ih hf G R; exact ⟨r', .again hq h1, h2, h3⟩
  | rule _ ih => intro hf G R; obtain ⟨r', h1, h2, h3⟩ := ih hf G R; exact ⟨r', .rule h1, h2, h3⟩
  | «at» _ ih => intro hf G R; obtain ⟨r', h1, h2, h3⟩ := ih hf G R; exact ⟨r', .at h1, h2, h3⟩
  | load ho _ ih => intro hf G R; obtain ⟨r', h1, h2, h3⟩ := ih hf G R; exact ⟨r', .load ho h1, h2, h3⟩
  | update ha _ ih => intro hf G R; obtain ⟨r', h1, h2, h3⟩ := ih hf G R; exact ⟨r', .update ha h1, h2, h3⟩
  | loadIfAlive _ ih => intro hf G R; obtain ⟨r', h1, h2, h3⟩ := ih hf G R; exact ⟨r', .loadIfAlive h1, h2, h3⟩
  | point _ ih => intro hf G R; obtain ⟨r', h1, h2, h3⟩ := ih hf G R; exact ⟨r', .point h1, h2, h3⟩
  | alloc _ ih => intro hf G R; obtain ⟨r', h1, h2, h3⟩ := ih hf G R; exact ⟨r', .alloc h1, h2, h3⟩
  | fresh _ ih => intro hf G R; obtain ⟨r', h1, h2, h3⟩ := ih hf G R; exact ⟨r', .fresh h1, h2, h3⟩
  | ask _ ih => intro hf G R; obtain ⟨r', h1, h2, h3⟩ := ih hf G R; exact ⟨r', .ask h1, h2, h3⟩
  | choose hn _ ih => intro hf G R; obtain ⟨r', h1, h2, h3⟩ := ih hf G R; exact ⟨r', .choose hn h1, h2, h3⟩
  | os _ ih => intro hf G R; obtain ⟨r', h1, h2, h3⟩ := ih hf G R; exact ⟨r', .os h1, h2, h3⟩
  | handled _ ih => intro hf G R; obtain ⟨r', h1, h2, h3⟩ := ih hf G R; exact ⟨r', .handled h1, h2, h3⟩
  | @genState g st Γ p k s e s' hg hr ih =>
    intro hf G R
    obtain ⟨r', h1, h2, h3⟩ := ih hf G R
    cases q : F g with
    | none => exact ⟨r', .genState (by rw [← R.same g q] at hg; exact hg) h1, h2, h3⟩
    | some x =>
      obtain ⟨_, k1, k2⟩ := R.fake g x q
      rw [k1] at hg
      cases hg
      rw [fk_seen] at h1
      exact ⟨r', .genState k2 h1, h2, h3⟩
  | stack _ ih => intro hf G R; obtain ⟨r', h1, h2, h3⟩ := ih hf G R; exact ⟨r', .stack h1, h2, h3⟩
  | thread _ ih => intro hf G R; obtain ⟨r', h1, h2, h3⟩ := ih hf G R; exact ⟨r', .thread h1, h2, h3⟩
  | @newGen Γ p k s e s' c hr ih =>
    intro hf G R
    obtain ⟨r', h1, h2, h3⟩ := ih hf (G.push (.fresh c)) (R.push c)
    refine ⟨r', .newGen ?_, h2, h3⟩
    have := R.size
    rw [show (gw s G).gens.size = s.gens.size from R.size]
    exact h1
  | call _ _ ih1 ih2 =>
    intro hf G R
    obtain ⟨r1, h1, h2, _⟩ := ih1 rfl G R
    obtain ⟨r2, k1, k2, k3⟩ := ih2 hf r1 h2
    exact ⟨r2, .call h1 k1, k2, k3⟩
  | callSusp _ ih =>
    intro hf G R
    obtain ⟨r1, h1, h2, h3⟩ := ih rfl G R
    exact ⟨r1, .callSusp h1, h2, plain_app h3 rfl⟩
  | yield => intro hf G R; exact ⟨G, .yield, R, rfl⟩
  | @resumeFresh Γ p g l k s c e₁ s₁ e s' hg _ hq _ ih1 ih2 =>
    intro hf G R
    cases q : F g with
    | some x =>
      obtain ⟨z, k1, k2⟩ := R.fake g x q
      rw [k1] at hg
      cases x <;> first | (cases z; done) | (cases hg; done)
    | none =>
      obtain ⟨r1, h1, h2, h3⟩ := ih1 rfl (G.setIfInBounds g .running) (R.set q trivial)
      obtain ⟨r2, j1, j2, j3⟩ := ih2 hf (r1.setIfInBounds g e₁.genState) (h2.set q (plainG_end h3))
      exact ⟨r2, .resumeFresh (by rw [← R.same g q] at hg; exact hg) h1 hq j1, j2, j3⟩
  | @resumeSuspended Γ p g rr l k s k₀ l₀ c₀ p₀ fs cl e₁ s₁ e s' hg hr hq _ ih1 ih2 =>
    intro hf G R
    cases q : F g with
    | some x =>
      obtain ⟨z, k1, k2⟩ := R.fake g x q
      rw [k1] at hg
      cases x with
      | suspended a1 a2 a3 a4 a5 a6 =>
        cases hg
        exact (no_unsup hr).elim
      | _ => cases z
    | none =>
      have pl : splitAtGen fs = none := R.plain g _ q hg
      obtain ⟨r1, h1, h2, h3⟩ := ih1 pl (G.setIfInBounds g .running) (R.set q trivial)
      obtain ⟨r2, j1, j2, j3⟩ := ih2 hf (r1.setIfInBounds g e₁.genState) (h2.set q (plainG_end h3))
      exact ⟨r2, .resumeSuspended (by rw [← R.same g q] at hg; exact hg) h1 hq j1, j2, j3⟩
  | @resumeJustStarted g v Γ p k s e s' l c hg hv _ ih =>
    intro hf G R
    cases q : F g with
    | some x =>
      obtain ⟨z, k1, k2⟩ := R.fake g x q
      rw [k1] at hg
      cases x <;> first | (cases z; done) | (cases hg; done)
    | none =>
      obtain ⟨r2, j1, j2, j3⟩ := ih hf G R
      exact ⟨r2, .resumeJustStarted (by rw [← R.same g q] at hg; exact hg) hv j1, j2, j3⟩
  | @resumeThrowFresh g Γ p k e s' x l s c hg _ ih =>
    intro hf G R
    cases q : F g with
    | some x =>
      obtain ⟨z, k1, k2⟩ := R.fake g x q
      rw [k1] at hg
      cases x <;> first | (cases z; done) | (cases hg; done)
    | none =>
      obtain ⟨r2, j1, j2, j3⟩ := ih hf (G.setIfInBounds g .finished) (R.set q trivial)
      exact ⟨r2, .resumeThrowFresh (by rw [← R.same g q] at hg; exact hg) j1, j2, j3⟩
  | @resumeRunning g Γ p k s e s' r l hg _ ih =>
    intro hf G R
    cases q : F g with
    | some x =>
      obtain ⟨z, k1, k2⟩ := R.fake g x q
      rw [k1] at hg
      cases x <;> first | (cases z; done) | (cases hg; done)
    | none =>
      obtain ⟨r2, j1, j2, j3⟩ := ih hf G R
      exact ⟨r2, .resumeRunning (by rw [← R.same g q] at hg; exact hg) j1, j2, j3⟩
  | @resumeFinished g Γ p k s e s' r l hg _ ih =>
    intro hf G R
    cases q : F g with
    | some x =>
      obtain ⟨z, k1, k2⟩ := R.fake g x q
      rw [k1] at hg
      cases x <;> first | (cases z; done) | (cases hg; done)
    | none =>
      obtain ⟨r2, j1, j2, j3⟩ := ih hf G R
      exact ⟨r2, .resumeFinished (by rw [← R.same g q] at hg; exact hg) j1, j2, j3⟩
  | segRet _ _ ih1 ih2 =>
    intro hf G R
    obtain ⟨r1, h1, h2, _⟩ := ih1 rfl G R
    obtain ⟨r2, j1, j2, j3⟩ := ih2 (plain_tail hf) r1 h2
    exact ⟨r2, .segRet h1 j1, j2, j3⟩
  | segGen _ _ _ _ => intro hf; exact absurd (show some _ = none from hf) (fun z => nomatch z)
  | segSuspOut hs _ ih =>
    intro hf G R
    obtain ⟨r1, h1, h2, h3⟩ := ih rfl G R
    exact ⟨r1, .segSuspOut hs h1, h2, plain_app h3 hs⟩
  | segSuspGen hs _ _ _ _ _ => intro hf; rw [hf] at hs; cases hs

theorem returns_fk {Γ : Ctx} {p : Pos} {s s' : Shared} {r : Result} (h : Returns M Γ p s r s') {G : Array GenState} (R : Rel F s.gens G) : ∃ G', Returns M Γ p (gw s G) r (gw s' G') ∧ Rel F s'.gens G' := by
  obtain ⟨G', h1, h2, _⟩ := runs_fk h rfl G R
  exact ⟨G', h1, h2⟩
theorem wakes_fk {Γ : Ctx} {p : Pos} {g : Nat} {r : Resume} {s s' : Shared} {res : GenResult} (h : Wakes M Γ p g r s res s') {G : Array GenState} (R : Rel F s.gens G) : ∃ G', Wakes M Γ p g r (gw s G) res (gw s' G') ∧ Rel F s'.gens G' := by
  cases q : F g with
  | some x =>
    obtain ⟨z, k1, k2⟩ := R.fake g x q
    unfold Wakes at h
    rw [k1] at h
    cases x with
    | suspended a1 a2 a3 a4 a5 a6 =>
      obtain ⟨e₁, s₁, hr, _⟩ := h
      exact (no_unsup hr).elim
    | _ => cases z
  | none =>
    have hs := R.same g q
    unfold Wakes at h ⊢
    rw [show (gw s G).gens[g]? = s.gens[g]? from hs]
    cases hg : s.gens[g]? with
    | none => rw [hg] at h; exact h.elim
    | some gs =>
      rw [hg] at h
      cases gs with
      | fresh c =>
        cases r with
        | send v =>
          by_cases hv : v = Value.none
          · subst hv
            obtain ⟨e₁, s₁, hr, hq, hres, hs'⟩ := h
            obtain ⟨G1, h1, h2, h3⟩ := runs_fk hr rfl (G.setIfInBounds g .running) (R.set q trivial)
            subst hs'
            exact ⟨G1.setIfInBounds g e₁.genState, ⟨e₁, _, h1, hq, hres, rfl⟩, h2.set q (plainG_end h3)⟩
          · cases v <;> first | exact absurd rfl hv | (obtain ⟨h1, h2⟩ := h; subst h2; exact ⟨G, ⟨h1, rfl⟩, R⟩)
        | throw x =>
          obtain ⟨h1, h2⟩ := h
          subst h2
          exact ⟨G.setIfInBounds g .finished, ⟨h1, rfl⟩, R.set q trivial⟩
      | suspended k₀ l₀ c₀ p₀ fs cl =>
        obtain ⟨e₁, s₁, hr, hq, hres, hs'⟩ := h
        obtain ⟨G1, h1, h2, h3⟩ := runs_fk hr (R.plain g _ q hg) (G.setIfInBounds g .running) (R.set q trivial)
        subst hs'
        exact ⟨G1.setIfInBounds g e₁.genState, ⟨e₁, _, h1, hq, hres, rfl⟩, h2.set q (plainG_end h3)⟩
      | running => obtain ⟨h1, h2⟩ := h; subst h2; exact ⟨G, ⟨h1, rfl⟩, R⟩
      | finished => obtain ⟨h1, h2⟩ := h; subst h2; exact ⟨G, ⟨h1, rfl⟩, R⟩
/-- what holds over the replaced ones holds over the real ones -/
theorem wp_fk {α : Type} (F : Nat → Option GenState) (M : Model) (Γ : Ctx) (t : Sem α) : ∀ (Q : α → Pos → Shared → Prop) (E : Value → Pos → Shared → Prop) (p : Pos) (s : Shared) (G : Array GenState), Rel F s.gens G → wp M Γ t Q E p s →
    wp M Γ t (fun a p' s' => ∃ G0, Rel F G0 s'.gens ∧ Q a p' (gw s' G0)) (fun e p' s' => ∃ G0, Rel F G0 s'.gens ∧ E e p' (gw s' G0)) p (gw s G) := by
  induction t with
  | pure a => intro Q E p s G R h; exact ⟨s.gens, R, h⟩
  | raise e => intro Q E p s G R h; exact ⟨s.gens, R, h⟩
  | unsupported _ => intro Q E p s G _ h; exact h
  | finish _ => intro Q E p s G _ h; exact h
  | rule _ k ih => intro Q E p s G R h; exact ih () Q E p s G R h
  | «at» p' k ih => intro Q E p s G R h; exact ih () Q E p' s G R h
  | load a _ k ih => intro Q E p s G R h; obtain ⟨o, ho, h⟩ := h; exact ⟨o, ho, ih o Q E p s G R h⟩
  | update a _ f k ih => intro Q E p s G R h; exact ⟨h.1, ih () Q E p { s with heap := s.heap.update a f } G R h.2⟩
  | loadIfAlive a k ih => intro Q E p s G R h; exact ih _ Q E p s G R h
  | point _ k ih => intro Q E p s G R h; exact ih () Q E p s G R h
  | register _ _ => intro Q E p s G _ h; exact h
  | alloc o k ih => intro Q E p s G R h; exact ih _ Q E p { s with heap := s.heap.push o } G R h
  | fresh k ih => intro Q E p s G R h; exact ih _ Q E p { s with toks := s.toks + 1 } G R h
  | ask k ih => intro Q E p s G R h; exact ih _ Q E p s G R h
  | choose src m k ih => intro Q E p s G R h; exact ⟨h.1, ih _ Q E p { s with drawn := s.drawn.bump src } G R h.2⟩
  | os q _ k ih => intro Q E p s G R h; exact ih _ Q E p { s with os := (Os.step s.os q).1 } G R h
  | call c hd _ _ k ih =>
    intro Q E p s G R h
    obtain ⟨r, s', hr, h⟩ := h
    obtain ⟨G', h1, h2⟩ := returns_fk hr R
    exact ⟨r, _, h1, ih r Q E p s' G' h2 h⟩
  | handled own k ih => intro Q E p s G R h; exact ih _ Q E p s G R h
  | genState g k ih =>
    intro Q E p s G R h
    obtain ⟨st, hs, h⟩ := h
    cases q : F g with
    | none => exact ⟨st, by rw [← R.same g q] at hs; exact hs, ih _ Q E p s G R h⟩
    | some x =>
      obtain ⟨_, k1, k2⟩ := R.fake g x q
      rw [k1] at hs
      cases hs
      rw [fk_seen] at h
      exact ⟨x, k2, ih _ Q E p s G R h⟩
  | newGen c k ih =>
    intro Q E p s G R h
    have := ih _ Q E p _ _ (R.push c) h
    rw [← R.size] at this
    exact this
  | resume g r _ k ih =>
    intro Q E p s G R h
    obtain ⟨res, s', hw, h⟩ := h
    obtain ⟨G', h1, h2⟩ := wakes_fk hw R
    exact ⟨res, _, h1, ih res Q E p s' G' h2 h⟩
  | yield _ _ _ _ => intro Q E p s G _ h; exact h
  | stack k ih => intro Q E p s G R h; exact ih _ Q E p s G R h
  | fork _ _ => intro Q E p s G _ h; exact h
  | thread k ih => intro Q E p s G R h; exact ih _ Q E p s G R h
  | await _ _ _ _ _ => intro Q E p s G _ h; exact h
theorem wpAny_fk {α : Type} {M : Model} {A : Around} {t : Sem α} {Q : α → Shared → Prop} {E : Value → Shared → Prop} {s : Shared} {G : Array GenState} (R : Rel F s.gens G) (h : wpAny M A t Q E s) :
    wpAny M A t (fun a s' => ∃ G0, Rel F G0 s'.gens ∧ Q a (gw s' G0)) (fun e s' => ∃ G0, Rel F G0 s'.gens ∧ E e (gw s' G0)) (gw s G) := fun Γ p hΓ => wp_fk F M Γ t _ _ p s G R (h Γ p hΓ)
/-- all that sleep now -/
def sleepers (G : Array GenState) (i : Nat) : Option GenState := match G[i]? with
  | some x => if isSusp x = true then some x else none
  | none => none
def faked (G : Array GenState) : Array GenState := G.map fk
theorem rel_faked (G : Array GenState) : Rel (sleepers G) (faked G) G := by
  refine ⟨by simp [faked], fun i x e => ?_, fun i e => ?_, fun i x e hx => ?_⟩
  · unfold sleepers at e
    split at e
    · rename_i y hy
      split at e
      · rename_i hs
        cases e
        exact ⟨hs, by simp [faked, hy], hy⟩
      · cases e
    · cases e
  · unfold sleepers at e
    unfold faked
    rw [Array.getElem?_map]
    cases hy : G[i]? with
    | none => rfl
    | some y =>
      rw [hy] at e
      cases y <;> first | rfl | (simp [isSusp] at e)
  · unfold sleepers at e
    unfold faked at hx
    rw [Array.getElem?_map] at hx
    cases hy : G[i]? with
    | none => rw [hy] at hx; cases hx
    | some y =>
      rw [hy] at e hx
      cases hx
      cases y <;> first | trivial | (simp [isSusp] at e)
theorem bare_faked {G : Array GenState} (h : ∀ y ∈ G, y.bare = true) : ∀ y ∈ faked G, y.bare = true := fun y hy => by
  obtain ⟨x, hx, rfl⟩ := Array.mem_map.mp hy
  rw [fk_bare]; exact h x hx
theorem bare_real (h : Rel F a b) (hF : ∀ i x, F i = some x → x.bare = true) (ha : ∀ y ∈ a, y.bare = true) : ∀ y ∈ b, y.bare = true := fun y hy => by
  obtain ⟨i, hi, rfl⟩ := Array.mem_iff_getElem.mp hy
  have hb : b[i]? = some b[i] := Array.getElem?_eq_getElem hi
  cases q : F i with
  | some x =>
    obtain ⟨_, _, k2⟩ := h.fake i x q
    rw [k2] at hb
    have : x = b[i] := Option.some.inj hb
    rw [← this]; exact hF i x q
  | none =>
    have k := h.same i q
    rw [hb] at k
    have hi' : i < a.size := by rw [← h.size]; exact hi
    rw [Array.getElem?_eq_getElem hi'] at k
    have : b[i] = a[i] := Option.some.inj k
    rw [this]; exact ha _ (Array.getElem_mem hi')
theorem sleepers_at {G : Array GenState} {g : Nat} {x : GenState} (h : G[g]? = some x) (hs : isSusp x = true) : sleepers G g = some x := by
  unfold sleepers; rw [h]; simp [hs]
theorem sleepers_bare {G : Array GenState} (h : ∀ y ∈ G, y.bare = true) : ∀ i x, sleepers G i = some x → x.bare = true := fun i x e => by
  unfold sleepers at e
  split at e
  · rename_i y hy
    split at e
    · cases e; exact h _ (Array.mem_of_getElem? hy)
    · cases e
  · cases e
end Fk
set_option Elab.async false
set_option linter.all false
set_option maxRecDepth 100000
set_option maxHeartbeats 1000000
/-! Pth: the generator path, its turns over the machine's own rules -/
namespace Pth
open PySem PySem.Spec PyProof.Rows L2 GenW
/-! ### the text of the loop -/
abbrev stPush (p1 p2 p3 p4 p5 : Pos) : Stmt := .Assign [.Name "push" p1] (.BinOp (.Name "push" p2) .FloorDiv (.Name "PUSH_SHARE" p3) p4) p5
abbrev stSlot (p1 p2 p3 p4 p5 p6 p7 p8 p9 p10 p11 : Pos) (k1 k2 : Nat) : Stmt := .Assign [.Name "slot" p1] (.BinOp (.BinOp (.BinOp (.BinOp (.Constant (.int 5) k1 p2) .Mult (.Name "slot" p3) p4) .Add (.Name "push" p5) p6) .Add (.Constant (.int 1) k2 p7) p8) .Mod (.Name "size" p9) p10) p11
/-- what the walk asks of the env -/
structure PEnv (env : Env) : Prop where
  kind : env.scope.kind = .function
  co : env.scope.isCoroutine = false
  gl : env.globals = mainGlobals
  slot : env.kindOf "slot" = some .local
  push : env.kindOf "push" = some .local
  size : env.kindOf "size" = some .local
  low : env.kindOf "_" = some .local
  share : env.kindOf "PUSH_SHARE" = some .globalImplicit
/-- the frame's names -/
structure Fm (env : Env) (h : Heap) (size slot push : Int) : Prop where
  ns : ∃ m, h.Ns env.locals m ∧ (∃ t, m "slot" = some (.int slot t)) ∧ (∃ t, m "push" = some (.int push t)) ∧ ∃ t, m "size" = some (.int size t)
  gl : ∃ mg, h.Ns mainGlobals mg ∧ ∃ t, mg "PUSH_SHARE" = some (.int 32 t)
theorem Fm.keeps {env : Env} {h h' : Heap} {size slot push : Int} (x : Fm env h size slot push) (k : ∀ b o, (b = env.locals ∨ b = mainGlobals) → h.get? b = some o → h'.get? b = some o) : Fm env h' size slot push := by
  obtain ⟨⟨m, hn, r⟩, ⟨mg, hg, q⟩⟩ := x
  exact ⟨⟨m, hn.at' fun o e => k _ o (.inl rfl) e, r⟩, ⟨mg, hg.at' fun o e => k _ o (.inr rfl) e, q⟩⟩
section
variable {prog : Program} {w : World} {A : Around} {E : Value → Shared → Prop} {s : Shared} {env : Env} {size slot push : Int}
theorem nm {x : Str} {p : Pos} {m : Str → Option Value} {v : Value} {Q : Value → Shared → Prop} (T : PEnv env) (hk : env.kindOf x = some .local) (hn : s.heap.Ns env.locals m) (hm : m x = some v) (h : Q v s) (hd : (x == ("__debug__" : Str)) = false := by decide) :
    wpAny (model prog w) A (eval (.Name x p) env) Q E s := wpAny_Name (wpAny_loadName_local T.kind hk hn hm h) hd
/-- push = push // PUSH_SHARE -/
theorem run_push {p1 p2 p3 p4 p5 : Pos} {Q : Flow → Shared → Prop} (T : PEnv env) (hL : env.locals ≠ mainGlobals) (x : Fm env s.heap size slot push)
    (h : ∀ h' tk, Fm env h' size slot (push.fdiv 32) → (∀ b o, b ≠ env.locals → s.heap.get? b = some o → h'.get? b = some o) → Q .next { s with heap := h', toks := tk }) :
    wpAny (model prog w) A (exec (stPush p1 p2 p3 p4 p5) env) Q E s := by
  obtain ⟨⟨m, hn, ⟨t1, e1⟩, ⟨t2, e2⟩, ⟨t3, e3⟩⟩, ⟨mg, hg, ⟨t4, e4⟩⟩⟩ := x
  have h1 : (("slot" : Str) = "push") = False := by simp [show ¬ (("slot" : Str) = "push") by decide]
  have h2 : (("size" : Str) = "push") = False := by simp [show ¬ (("size" : Str) = "push") by decide]
  refine wpAny_Assign_Name ?_
  refine wpAny_BinOp (nm T T.push hn e2 ?_)
  refine Calls.Name_function_global T.kind T.share (Calls.loadGlobal_global (by rw [T.gl]; exact hg) e4 ?_) (by decide)
  refine floordiv_int (by decide) ?_
  refine wpAny_storeName_local (s := { s with toks := s.toks + 1 }) T.push hn (fun h' hn' hs => ?_) (by rw [T.kind]; rfl)
  refine h h' _ ⟨⟨_, hn', ⟨t1, by rw [if_neg (by simp [h1])]; exact e1⟩, ⟨_, if_pos rfl⟩, ⟨t3, by rw [if_neg (by simp [h2])]; exact e3⟩⟩, ⟨mg, hg.sameBut hs (Ne.symm hL), t4, e4⟩⟩ fun b o hb e => (hs.2 b hb).trans e
/-- slot = (5 * slot + push + 1) % size -/
theorem run_slot {p1 p2 p3 p4 p5 p6 p7 p8 p9 p10 p11 : Pos} {k1 k2 : Nat} {Q : Flow → Shared → Prop} (T : PEnv env) (hL : env.locals ≠ mainGlobals) (hz : size ≠ 0) (x : Fm env s.heap size slot push)
    (h : ∀ h' tk, Fm env h' size ((5 * slot + push + 1).fmod size) push → (∀ b o, b ≠ env.locals → s.heap.get? b = some o → h'.get? b = some o) → Q .next { s with heap := h', toks := tk }) :
    wpAny (model prog w) A (exec (stSlot p1 p2 p3 p4 p5 p6 p7 p8 p9 p10 p11 k1 k2) env) Q E s := by
  obtain ⟨⟨m, hn, ⟨t1, e1⟩, ⟨t2, e2⟩, ⟨t3, e3⟩⟩, ⟨mg, hg, q⟩⟩ := x
  have h1 : (("push" : Str) = "slot") = False := by simp [show ¬ (("push" : Str) = "slot") by decide]
  have h2 : (("size" : Str) = "slot") = False := by simp [show ¬ (("size" : Str) = "slot") by decide]
  refine wpAny_Assign_Name ?_
  refine wpAny_BinOp (wpAny_BinOp (wpAny_BinOp (wpAny_BinOp (wpAny_Constant_int (nm (s := { s with toks := s.toks + 1 }) T T.slot hn e1 ?_)))))
  refine mul_int ?_ (CMul.ok (.inl ⟨by decide, by decide⟩))
  refine nm (s := { s with toks := s.toks + 1 + 1 }) T T.push hn e2 ?_
  refine add_int ?_
  refine wpAny_Constant_int ?_
  refine add_int ?_
  refine nm (s := { s with toks := s.toks + 1 + 1 + 1 + 1 + 1 }) T T.size hn e3 ?_
  refine mod_int' hz ?_
  refine wpAny_storeName_local (s := { s with toks := _ }) T.slot hn (fun h' hn' hs => ?_) (by rw [T.kind]; rfl)
  refine h h' _ ⟨⟨_, hn', ⟨_, if_pos rfl⟩, ⟨t2, by rw [if_neg (by simp [h1])]; exact e2⟩, ⟨t3, by rw [if_neg (by simp [h2])]; exact e3⟩⟩, ⟨mg, hg.sameBut hs (Ne.symm hL), q⟩⟩ fun b o hb e => (hs.2 b hb).trans e
end

/-! ### for, within a generator -/
section
variable {M : Model} {A : Around} {R : GenEnd} {Y : Protocol} {n : Nat} {s₀ : Shared} {c : Code} {fs : List Frame} {s : Shared} {env : Env}
  {K : Flow → Sem PySem.Fin} {H : Value → Sem PySem.Fin} {gd : Bool → Bool} {lv : List Value → List Value}
/-- what stands behind the loop's call -/
abbrev behind (env : Env) (K : Flow → Sem PySem.Fin) (H : Value → Sem PySem.Fin) (gd : Bool → Bool) (lv : List Value → List Value) (r : Result) : Sem PySem.Fin :=
  ((match r with | .ok f => (.pure f : Sem Flow) | .error e => .raise e).onRaise fun (x : Value) => do
    if (← field x 1) == Value.none then unsupported "frame.own-activation:exception-without-traceback"
    setFlight x env.frame).wrap K H gd lv
theorem seg_For {target iter : Expr} {body orelse : List Stmt} {pos : Pos} (hs : ∀ x, foldedSetIterable iter env x = pure x)
    (h : wpAny M (A.over c fs) (eval iter env) (fun x s₁ => wpAny M (A.over c fs) (pyIter x) (fun it s₂ => ∀ p, Seg M A R Y n s₀ (.forLoop target it body orelse env) (M.den (.forLoop target it body orelse env)) (.ret (behind env K H gd lv) none (gd false) (lv []) c p [] :: fs) s₂)
      (fun x s' => Seg M A R Y n s₀ c (H x) fs s') s₁) (fun x s' => Seg M A R Y n s₀ c (H x) fs s') s) :
    Seg M A R Y n s₀ c ((exec (.For target iter body orelse pos) env).wrap K H gd lv) fs s := by
  rw [exec_For]
  refine seg_at ?_
  show Seg _ _ _ _ _ _ _ (((eval iter env) >>= fun x => (foldedSetIterable iter env x >>= fun x => (standAt iter.pos >>= fun _ => (holding [x] (pyIter x)) >>= fun it => runOwn (.forLoop target it body orelse env) env))).wrap K H gd lv) fs s
  rw [Sem.bind_eq_wrap', Sem.wrap_wrap]
  refine seg_wrap (wpAny_mono h (fun x s₁ h₁ => ?_) fun _ _ h' => h')
  rw [hs x]
  refine seg_at ?_
  show Seg _ _ _ _ _ _ _ (((holding [x] (pyIter x)) >>= fun it => runOwn (.forLoop target it body orelse env) env).wrap K H gd lv) fs s₁
  rw [Sem.bind_eq_wrap', Sem.wrap_wrap]
  refine seg_wrap (wpAny_holding (wpAny_mono h₁ (fun it s₂ h₂ => ?_) fun _ _ h' => h'))
  exact seg_call h₂
end
section
variable {prog : Program} {w : World} {A : Around} {R : GenEnd} {Y : Protocol} {n : Nat} {s₀ : Shared} {fs : List Frame} {s : Shared} {env : Env}
/-- what is left of a loop's turn behind its body -/
abbrev turned (target : Expr) (it : Value) (body orelse : List Stmt) (env : Env) (f : Flow) : Sem PySem.Fin := match f with
  | .next | .cont => .pure (.again (.forLoop target it body orelse env))
  | .brk => .pure (.done .next)
  | .ret v => .pure (.done (.ret v))
abbrev noted (env : Env) (e : Value) : Sem PySem.Fin := (do noteFrame e env; theTreesLotGoes e : Sem Unit).wrap (fun _ => .raise e) .raise id id
theorem seg_forLoop {target : Expr} {it : Value} {body orelse : List Stmt} (hgo : ∀ v, letOwnedTupleGo target it v = pure ())
    (h : wpAny (model prog w) (A.over (.forLoop target it body orelse env) fs) (pyNext it) (fun r s₁ => match r with
        | none => Seg (model prog w) A R Y n s₀ (.block orelse env) ((model prog w).den (.block orelse env)) fs s₁
        | some v => wpAny (model prog w) (A.over (.forLoop target it body orelse env) fs) (assign target env v) (fun _ s₂ =>
            Seg (model prog w) A R Y n s₀ (.forLoop target it body orelse env) ((execs body env).wrap (turned target it body orelse env) (noted env) id id) fs s₂)
            (fun _ _ => False) s₁) (fun _ _ => False) s)
    (hq : (Code.block orelse env).quiet = true := by rfl) :
    Seg (model prog w) A R Y n s₀ (.forLoop target it body orelse env) ((model prog w).den (.forLoop target it body orelse env)) fs s := by
  show Seg _ A R Y n s₀ _ ((forTurn target it body orelse env).onRaise (fun x => do noteFrame x env; theTreesLotGoes x)) fs s
  rw [Sem.onRaise_eq_wrap]
  unfold forTurn
  refine seg_at ?_
  show Seg _ A R Y n s₀ _ ((((pyNext it).onRaise (fun _ => standAt { target.pos with line := 0 })) >>= fun r => (match r with
    | none => again (.block orelse env)
    | some v => letOwnedTupleGo target it v >>= fun _ => assign target env v >>= fun _ => execs body env >>= fun f => (match f with
      | .next | .cont => again (.forLoop target it body orelse env)
      | .brk => pure (.done .next)
      | .ret v => pure (.done (.ret v)) : Sem PySem.Fin) : Sem PySem.Fin)).wrap _ _ id id) fs s
  rw [Sem.bind_eq_wrap', Sem.wrap_wrap]
  refine seg_wrap (wpAny_onRaise (wpAny_mono h (fun r s₁ h₁ => ?_) fun _ _ h' => h'.elim))
  cases r with
  | none => exact seg_again hq h₁
  | some v =>
    show Seg _ A R Y n s₀ _ ((letOwnedTupleGo target it v >>= fun _ => assign target env v >>= fun _ => execs body env >>= fun f => (match f with
      | .next | .cont => again (.forLoop target it body orelse env)
      | .brk => pure (.done .next)
      | .ret v => pure (.done (.ret v)) : Sem PySem.Fin)).wrap _ _ id id) fs s₁
    rw [hgo v]
    show Seg _ A R Y n s₀ _ ((assign target env v >>= fun _ => execs body env >>= fun f => (match f with
      | .next | .cont => again (.forLoop target it body orelse env)
      | .brk => pure (.done .next)
      | .ret v => pure (.done (.ret v)) : Sem PySem.Fin)).wrap _ _ id id) fs s₁
    rw [Sem.bind_eq_wrap', Sem.wrap_wrap]
    refine seg_wrap (wpAny_mono h₁ (fun _ s₂ h₂ => ?_) fun _ _ h' => h'.elim)
    rw [Sem.bind_eq_wrap', Sem.wrap_wrap]
    refine cast ?_ h₂
    congr 1
    refine Sem.wrap_congr _ id id (fun f => by cases f <;> rfl) (fun e => ?_)
    show _ = ((do noteFrame e env; theTreesLotGoes e : Sem Unit).bind (fun _ => Sem.raise e))
    rw [Sem.bind_eq_wrap]
end

/-! ### the loop of path -/
/-- the pushes and the slots -/
def pu (code : Int) : Nat → Int
  | 0 => code
  | i + 1 => (pu code i).fdiv 32
def sl (size code : Int) : Nat → Int
  | 0 => code.fmod size
  | i + 1 => (5 * sl size code i + pu code (i + 1) + 1).fmod size
/-- ahead of the turn i: the frame, and the iterator of range(N) -/
structure LSt (env : Env) (it : Addr) (N : Nat) (size code : Int) (i : Nat) (h : Heap) : Prop where
  fm : Fm env h size (sl size code i) (pu code i)
  rg : IsRangeIter h it (0 + (i : Nat) * 1) ((N : Int) - (i : Nat)) 1
/-- amid the turn i: the slot is out -/
structure LSy (env : Env) (it : Addr) (N : Nat) (size code : Int) (i : Nat) (h : Heap) : Prop where
  fm : Fm env h size (sl size code i) (pu code i)
  rg : IsRangeIter h it (0 + ((i + 1 : Nat) : Int) * 1) ((N : Int) - ((i + 1 : Nat) : Int)) 1
/-- only the frame and the iterator have changed -/
def Mv (L it : Addr) (s s' : Shared) : Prop := ∃ h' tk, s' = { s with heap := h', toks := tk } ∧ ∀ b o, b ≠ L → b ≠ it → s.heap.get? b = some o → h'.get? b = some o
theorem Mv.refl {L it : Addr} {s : Shared} : Mv L it s s := ⟨s.heap, s.toks, rfl, fun _ _ _ _ e => e⟩
theorem Mv.trans {L it : Addr} {s s1 s2 : Shared} (a : Mv L it s s1) (b : Mv L it s1 s2) : Mv L it s s2 := by
  obtain ⟨h1, t1, rfl, k1⟩ := a
  obtain ⟨h2, t2, rfl, k2⟩ := b
  exact ⟨h2, t2, rfl, fun c o n1 n2 e => k2 c o n1 n2 (k1 c o n1 n2 e)⟩
/-- asleep: the generator's own things stay -/
def Slp (env : Env) (it : Addr) (s s' : Shared) : Prop := ∀ b o, (b = env.locals ∨ b = it ∨ b = mainGlobals) → s.heap.get? b = some o → s'.heap.get? b = some o
theorem LSy.keeps {env : Env} {it : Addr} {N : Nat} {size code : Int} {i : Nat} {s s' : Shared} (x : LSy env it N size code i s.heap) (k : Slp env it s s') : LSy env it N size code i s'.heap :=
  ⟨x.fm.keeps fun b o hb e => k b o (hb.elim .inl fun z => .inr (.inr z)) e, k it _ (.inr (.inl rfl)) x.rg⟩
/-- the wake that began at s₀ has come to s: ahead of the first slot by its own word, later the frame and the iterator alone have changed -/
def Jr (J0 : Shared → Shared → Prop) (L it : Addr) (i : Nat) (s₀ s : Shared) : Prop := if i = 0 then J0 s₀ s else Mv L it s₀ s
def YP (J0 : Shared → Shared → Prop) (env : Env) (it : Addr) (N : Nat) (size code : Int) : Protocol := fun n s₀ v s kap =>
  ∃ i t, n + 1 + i = N ∧ v = .int (sl size code i) t ∧ Jr J0 env.locals it i s₀ s ∧ LSy env it N size code i s.heap ∧ ∀ s', Slp env it s s' → kap (.send .none) s'
def RP (J0 : Shared → Shared → Prop) (L it : Addr) (N : Nat) : GenEnd := fun n s₀ r s => r = .ok (.ret .none) ∧ n = 0 ∧ Jr J0 L it N s₀ s
section
variable {prog : Program} {w : World} {A : Around} {env : Env} {J0 : Shared → Shared → Prop} {it : Addr} {N : Nat} {size code : Int}
abbrev loopBody (p0 p0' p0'' p1 p2 p3 p4 p5 q1 q2 q3 q4 q5 q6 q7 q8 q9 q10 q11 : Pos) (k1 k2 : Nat) : List Stmt :=
  [.Expr (.Yield (some (.Name "slot" p0)) p0') p0'', stPush p1 p2 p3 p4 p5, stSlot q1 q2 q3 q4 q5 q6 q7 q8 q9 q10 q11 k1 k2]
theorem path_seg {pt p0 p0' p0'' p1 p2 p3 p4 p5 q1 q2 q3 q4 q5 q6 q7 q8 q9 q10 q11 : Pos} {k1 k2 : Nat} (T : PEnv env) (hi : interactive env = false) (hL : env.locals ≠ mainGlobals) (hiL : it ≠ env.locals) (hiG : it ≠ mainGlobals) (hz : size ≠ 0)
    (hJ : ∀ s₀ s s', J0 s₀ s → Mv env.locals it s s' → J0 s₀ s') {kf : Result → Sem PySem.Fin} {g : Bool → Bool} {l : List Value} {c : Code} {p : Pos} (hg : g false = false)
    (hA : (A.over (.forLoop (.Name "_" pt) (.ref it) (loopBody p0 p0' p0'' p1 p2 p3 p4 p5 q1 q2 q3 q4 q5 q6 q7 q8 q9 q10 q11 k1 k2) [] env) [.ret kf none (g false) l c p []]).handled = none)
    (hend : ∀ s₀ s, Jr J0 env.locals it N s₀ s → Seg (model prog w) A (RP J0 env.locals it N) (YP J0 env it N size code) 0 s₀ c (kf (.ok .next)) [] s) :
    ∀ (r i : Nat) (s₀ s : Shared), i + r = N → LSt env it N size code i s.heap → Jr J0 env.locals it i s₀ s →
      Seg (model prog w) A (RP J0 env.locals it N) (YP J0 env it N size code) r s₀ (.forLoop (.Name "_" pt) (.ref it) (loopBody p0 p0' p0'' p1 p2 p3 p4 p5 q1 q2 q3 q4 q5 q6 q7 q8 q9 q10 q11 k1 k2) [] env)
        ((model prog w).den (.forLoop (.Name "_" pt) (.ref it) (loopBody p0 p0' p0'' p1 p2 p3 p4 p5 q1 q2 q3 q4 q5 q6 q7 q8 q9 q10 q11 k1 k2) [] env)) [.ret kf none (g false) l c p []] s := by
  have jmv : ∀ i s₀ s s', Jr J0 env.locals it i s₀ s → Mv env.locals it s s' → Jr J0 env.locals it i s₀ s' := fun i s₀ s s' h m => by
    unfold Jr at h ⊢
    split at h
    · rename_i e
      rw [if_pos e]; exact hJ _ _ _ h m
    · rename_i e
      rw [if_neg e]; exact h.trans m
  intro r
  induction r with
  | zero =>
    intro i s₀ s hir x j
    obtain rfl : i = N := by omega
    refine seg_forLoop (fun v => rfl) ?_
    refine wpAny_pyNext_range_end hA x.rg (by omega) fun h' eb => ?_
    show Seg _ _ _ _ 0 s₀ (.block [] env) ((model prog w).den (.block [] env)) _ _
    refine seg_leaf (.ok .next) (hend s₀ _ (jmv _ _ _ _ j ⟨h', s.toks, rfl, fun b o _ hb e => eb b o hb e⟩))
  | succ r ih =>
    intro i s₀ s hir x j
    refine seg_forLoop (fun v => rfl) ?_
    have W := Walks.range (prog := prog) (w := w) hA it 0 1 N
    refine W.item i s _ _ (by omega) x.rg fun v h1 t1 hv rg1 k1' => ?_
    obtain ⟨tv, rfl⟩ := hv
    have kk : ∀ b o, b ≠ it → s.heap.get? b = some o → h1.get? b = some o := fun b o hb e => k1' b o (by simpa using hb) e
    have f1 : Fm env h1 size (sl size code i) (pu code i) := x.fm.keeps fun b o hb e => kk b o (by rcases hb with hb | hb <;> rw [hb] <;> first | exact Ne.symm hiL | exact Ne.symm hiG) e
    have j1 : Jr J0 env.locals it i s₀ { s with heap := h1, toks := t1 } := jmv _ _ _ _ j ⟨h1, t1, rfl, fun b o _ hb e => kk b o hb e⟩
    -- the loop's own name
    show wpAny _ _ (assign (.Name "_" pt) env _) _ _ _
    obtain ⟨⟨m, hn, ⟨a1, e1⟩, ⟨a2, e2⟩, ⟨a3, e3⟩⟩, ⟨mg, hg', gq⟩⟩ := f1
    have n1 : ¬ (("slot" : Str) = "_") := by decide
    have n2 : ¬ (("push" : Str) = "_") := by decide
    have n3 : ¬ (("size" : Str) = "_") := by decide
    refine wpAny_assign_Name (wpAny_storeName_local (s := { s with heap := h1, toks := t1 }) T.low hn (fun h2 hn2 hs2 => ?_) (by rw [T.kind]; rfl))
    have f2 : Fm env h2 size (sl size code i) (pu code i) := ⟨⟨_, hn2, ⟨a1, by rw [if_neg n1]; exact e1⟩, ⟨a2, by rw [if_neg n2]; exact e2⟩, ⟨a3, by rw [if_neg n3]; exact e3⟩⟩, ⟨mg, hg'.sameBut hs2 (Ne.symm hL), gq⟩⟩
    have j2 : Jr J0 env.locals it i s₀ { s with heap := h2, toks := t1 + 1 } := jmv _ _ _ _ j1 ⟨h2, t1 + 1, rfl, fun b o hb _ e => (hs2.2 b hb).trans e⟩
    have y2 : LSy env it N size code i h2 := ⟨f2, (hs2.2 it hiL).trans rg1⟩
    -- yield slot
    refine seg_execs_cons ?_
    refine seg_Expr_Yield (n := r) (gd := id) (by rfl) rfl (by show (g false || false) = false; rw [hg]; rfl) ?_ T.co hi
    obtain ⟨⟨m2, hm2, ⟨b1, c1⟩, _⟩, _⟩ := f2
    refine nm (s := { s with heap := h2, toks := t1 + 1 }) T T.slot hm2 c1 ?_
    intro kap hk
    refine ⟨i, b1, by omega, rfl, j2, y2, fun s'' z => hk .none s'' ?_⟩
    show Seg _ _ _ _ r s'' _ _ _ _
    have y3 := y2.keeps (s := { s with heap := h2, toks := t1 + 1 }) (s' := s'') z
    -- push, slot
    show Seg _ _ _ _ r s'' _ ((execs [stPush p1 p2 p3 p4 p5, stSlot q1 q2 q3 q4 q5 q6 q7 q8 q9 q10 q11 k1 k2] env).wrap _ _ id id) _ s''
    refine seg_execs_cons (seg_wrap (run_push T hL y3.fm fun h4 t4 f4 k4 => ?_))
    show Seg _ _ _ _ r s'' _ ((execs [stSlot q1 q2 q3 q4 q5 q6 q7 q8 q9 q10 q11 k1 k2] env).wrap _ _ id id) _ _
    refine seg_execs_cons (seg_wrap (run_slot (s := { s'' with heap := h4, toks := t4 }) T hL hz f4 fun h5 t5 f5 k5 => ?_))
    show Seg _ _ _ _ r s'' _ ((execs [] env).wrap _ _ id id) _ _
    refine seg_execs_nil ?_
    refine seg_again rfl ?_
    refine ih (i + 1) s'' _ (by omega) ⟨f5, (k5 it _ hiL (k4 it _ hiL y3.rg))⟩ ?_
    unfold Jr
    rw [if_neg (by omega)]
    exact ⟨h5, t5, rfl, fun b o hb _ e => k5 b o hb (k4 b o hb e)⟩
end
end Pth
set_option Elab.async false
set_option linter.all false
set_option maxRecDepth 100000
set_option maxHeartbeats 1000000
/-! Pg: the first wake of a generator, its end by any word -/
namespace Pth
open PySem PySem.Spec PyProof.Rows L2 GenW
def SegG (M : Model) (A : Around) (Φ : End → Shared → Prop) (c : Code) (t : Sem PySem.Fin) (fs : List Frame) (s : Shared) : Prop :=
  ∀ (Γ : PySem.Ctx) (p : Pos), Γ.code = c → Γ.Woken A → ∃ e s', Runs M Γ p t fs s e s' ∧ Φ e s'
section
variable {M : Model} {A : Around} {Φ : End → Shared → Prop} {c : Code} {fs : List Frame} {s : Shared} {env : Env}
theorem sg_wrap {α : Type} {m : Sem α} {K : α → Sem PySem.Fin} {H : Value → Sem PySem.Fin} {gd lv}
    (h : wpAny M (A.over c fs) m (fun a s' => SegG M A Φ c (K a) fs s') (fun x s' => SegG M A Φ c (H x) fs s') s) : SegG M A Φ c (m.wrap K H gd lv) fs s := by
  rintro Γ p rfl hΓ
  exact runs_wrap_of_wp K H gd lv m (h (Γ.over fs) p (hΓ.over fs)) (fun a p' s' h' => h' Γ p' rfl hΓ) (fun x p' s' h' => h' Γ p' rfl hΓ)
theorem sg_at {p' : Pos} {k : Unit → Sem PySem.Fin} (h : SegG M A Φ c (k ()) fs s) : SegG M A Φ c (.at p' k) fs s :=
  sg_wrap (m := standAt p') (K := k) (H := .raise) (gd := id) (lv := id) (wpAny_standAt h)
theorem sg_point {l : List Value} {k : Unit → Sem PySem.Fin} (h : SegG M A Φ c (k ()) fs s) : SegG M A Φ c (.point l k) fs s :=
  sg_wrap (m := point) (K := k) (H := .raise) (gd := id) (lv := fun _ => l) (wpAny_point h)
theorem sg_call {c' : Code} {h g l} {k : Result → Sem PySem.Fin} (hc : ∀ p, SegG M A Φ c' (M.den c') (.ret k h g l c p [] :: fs) s) : SegG M A Φ c (.call c' h g l k) fs s := by
  rintro Γ p rfl hΓ
  obtain ⟨e, s', hr, he⟩ := hc p (Γ.goto c') p rfl (hΓ.goto c')
  exact ⟨e, s', runs_call_seg hr, he⟩
theorem sg_leaf {k h g l c₁ p₁ kp} (r : Result) (hk : SegG M A Φ c₁ (k r) fs s) : SegG M A Φ c (leafOf r) (.ret k h g l c₁ p₁ kp :: fs) s := by
  rintro Γ p rfl hΓ
  obtain ⟨e, s', hr, he⟩ := hk (Γ.goto c₁) p₁ rfl (hΓ.goto c₁)
  exact ⟨e, s', Runs.pop r hr, he⟩
theorem sg_again {c' : Code} (hq : c'.quiet = true) (hc : SegG M A Φ c' (M.den c') fs s) : SegG M A Φ c (.pure (.again c')) fs s := by
  rintro Γ p rfl hΓ
  obtain ⟨e, s', hr, he⟩ := hc (Γ.goto c') p rfl (hΓ.goto c')
  exact ⟨e, s', Runs.head (c₁ := c') (fun _ _ x => .again hq x) hr, he⟩
theorem sg_end (r : Result) (h : Φ (.ret r) s) : SegG M A Φ c (leafOf r) [] s := by
  rintro Γ p rfl _
  exact ⟨.ret r, s, Runs.leaf r, h⟩
theorem sg_yield {v g l} {k : Resume → Sem PySem.Fin} (hfs : splitAtGen fs = none) (h : ∀ p, Φ (.susp v g l k c p fs) s) : SegG M A Φ c (.yield v g l k) fs s := by
  rintro Γ p rfl _
  exact ⟨_, s, Runs.yield' fs hfs, h p⟩
variable {K : Flow → Sem PySem.Fin} {H : Value → Sem PySem.Fin} {gd : Bool → Bool} {lv : List Value → List Value}
theorem sg_execs_nil (h : SegG M A Φ c (K .next) fs s) : SegG M A Φ c ((execs [] env).wrap K H gd lv) fs s := h
theorem sg_execs_cons {st : Stmt} {rest : List Stmt}
    (h : SegG M A Φ c ((exec st env).wrap (fun f => match f with | .next => (execs rest env).wrap K H gd lv | f => K f) H gd lv) fs s) :
    SegG M A Φ c ((execs (st :: rest) env).wrap K H gd lv) fs s := by rw [execs_cons_wrap]; exact h
/-- some statements ahead, by one judgement -/
theorem execs_app_wrap : ∀ (l r : List Stmt) (K : Flow → Sem PySem.Fin), (execs (l ++ r) env).wrap K H gd lv = (execs l env).wrap (fun f => match f with | .next => (execs r env).wrap K H gd lv | f => K f) H gd lv := by
  intro l
  induction l with
  | nil => intro r K; rfl
  | cons a t ih =>
    intro r K
    rw [List.cons_append, execs_cons_wrap, execs_cons_wrap]
    refine Sem.wrap_congr _ gd lv (fun f => ?_) (fun _ => rfl)
    cases f with
    | next => exact ih r K
    | _ => rfl
theorem sg_app {l r : List Stmt} (h : SegG M A Φ c ((execs l env).wrap (fun f => match f with | .next => (execs r env).wrap K H gd lv | f => K f) H gd lv) fs s) : SegG M A Φ c ((execs (l ++ r) env).wrap K H gd lv) fs s := by
  rw [execs_app_wrap]; exact h
theorem sg_For {target iter : Expr} {body orelse : List Stmt} {pos : Pos} (hs : ∀ x, foldedSetIterable iter env x = pure x)
    (h : wpAny M (A.over c fs) (eval iter env) (fun x s₁ => wpAny M (A.over c fs) (pyIter x) (fun it s₂ => ∀ p, SegG M A Φ (.forLoop target it body orelse env) (M.den (.forLoop target it body orelse env)) (.ret (behind env K H gd lv) none (gd false) (lv []) c p [] :: fs) s₂)
      (fun x s' => SegG M A Φ c (H x) fs s') s₁) (fun x s' => SegG M A Φ c (H x) fs s') s) :
    SegG M A Φ c ((exec (.For target iter body orelse pos) env).wrap K H gd lv) fs s := by
  rw [exec_For]
  refine sg_at ?_
  show SegG _ _ _ _ (((eval iter env) >>= fun x => (foldedSetIterable iter env x >>= fun x => (standAt iter.pos >>= fun _ => (holding [x] (pyIter x)) >>= fun it => runOwn (.forLoop target it body orelse env) env))).wrap K H gd lv) fs s
  rw [Sem.bind_eq_wrap', Sem.wrap_wrap]
  refine sg_wrap (wpAny_mono h (fun x s₁ h₁ => ?_) fun _ _ h' => h')
  rw [hs x]
  refine sg_at ?_
  show SegG _ _ _ _ (((holding [x] (pyIter x)) >>= fun it => runOwn (.forLoop target it body orelse env) env).wrap K H gd lv) fs s₁
  rw [Sem.bind_eq_wrap', Sem.wrap_wrap]
  refine sg_wrap (wpAny_holding (wpAny_mono h₁ (fun it s₂ h₂ => ?_) fun _ _ h' => h'))
  exact sg_call h₂
end
section
variable {prog : Program} {w : World} {A : Around} {Φ : End → Shared → Prop} {fs : List Frame} {s : Shared} {env : Env}
theorem sg_forLoop {target : Expr} {it : Value} {body orelse : List Stmt} (hgo : ∀ v, letOwnedTupleGo target it v = pure ())
    (h : wpAny (model prog w) (A.over (.forLoop target it body orelse env) fs) (pyNext it) (fun r s₁ => match r with
        | none => SegG (model prog w) A Φ (.block orelse env) ((model prog w).den (.block orelse env)) fs s₁
        | some v => wpAny (model prog w) (A.over (.forLoop target it body orelse env) fs) (assign target env v) (fun _ s₂ =>
            SegG (model prog w) A Φ (.forLoop target it body orelse env) ((execs body env).wrap (turned target it body orelse env) (noted env) id id) fs s₂)
            (fun _ _ => False) s₁) (fun _ _ => False) s)
    (hq : (Code.block orelse env).quiet = true := by rfl) :
    SegG (model prog w) A Φ (.forLoop target it body orelse env) ((model prog w).den (.forLoop target it body orelse env)) fs s := by
  show SegG _ A Φ _ ((forTurn target it body orelse env).onRaise (fun x => do noteFrame x env; theTreesLotGoes x)) fs s
  rw [Sem.onRaise_eq_wrap]
  unfold forTurn
  refine sg_at ?_
  show SegG _ A Φ _ ((((pyNext it).onRaise (fun _ => standAt { target.pos with line := 0 })) >>= fun r => (match r with
    | none => again (.block orelse env)
    | some v => letOwnedTupleGo target it v >>= fun _ => assign target env v >>= fun _ => execs body env >>= fun f => (match f with
      | .next | .cont => again (.forLoop target it body orelse env)
      | .brk => pure (.done .next)
      | .ret v => pure (.done (.ret v)) : Sem PySem.Fin) : Sem PySem.Fin)).wrap _ _ id id) fs s
  rw [Sem.bind_eq_wrap', Sem.wrap_wrap]
  refine sg_wrap (wpAny_onRaise (wpAny_mono h (fun r s₁ h₁ => ?_) fun _ _ h' => h'.elim))
  cases r with
  | none => exact sg_again hq h₁
  | some v =>
    show SegG _ A Φ _ ((letOwnedTupleGo target it v >>= fun _ => assign target env v >>= fun _ => execs body env >>= fun f => (match f with
      | .next | .cont => again (.forLoop target it body orelse env)
      | .brk => pure (.done .next)
      | .ret v => pure (.done (.ret v)) : Sem PySem.Fin)).wrap _ _ id id) fs s₁
    rw [hgo v]
    show SegG _ A Φ _ ((assign target env v >>= fun _ => execs body env >>= fun f => (match f with
      | .next | .cont => again (.forLoop target it body orelse env)
      | .brk => pure (.done .next)
      | .ret v => pure (.done (.ret v)) : Sem PySem.Fin)).wrap _ _ id id) fs s₁
    rw [Sem.bind_eq_wrap', Sem.wrap_wrap]
    refine sg_wrap (wpAny_mono h₁ (fun _ s₂ h₂ => ?_) fun _ _ h' => h'.elim)
    rw [Sem.bind_eq_wrap', Sem.wrap_wrap]
    refine cast ?_ h₂
    congr 1
    refine Sem.wrap_congr _ id id (fun f => by cases f <;> rfl) (fun e => ?_)
    show _ = ((do noteFrame e env; theTreesLotGoes e : Sem Unit).bind (fun _ => Sem.raise e))
    rw [Sem.bind_eq_wrap]
theorem sg_Expr_Yield {K : Flow → Sem PySem.Fin} {H : Value → Sem PySem.Fin} {e : Expr} {ypos pos : Pos} {c : Code} (hfs : splitAtGen fs = none)
    (h : wpAny (model prog w) (A.over c fs) (eval e env) (fun v s' => ∀ p k, (∀ v, k (.send v) = (dropValue (.Yield (some e) ypos) pos v).wrap K H id id) → Φ (.susp v false [] k c p fs) s')
      (fun x s' => SegG (model prog w) A Φ c (H x) fs s') s) (hco : env.scope.isCoroutine = false := by rfl) (hi : interactive env = false := by rfl) :
    SegG (model prog w) A Φ c ((exec (.Expr (.Yield (some e) ypos) pos) env).wrap K H id id) fs s := by
  rw [exec_Expr env _ pos hi rfl]
  show SegG _ A Φ c (.at pos fun _ => ((eval e env >>= fun v => (standAt ypos >>= fun _ => yieldOut env v)) >>= fun x =>
    dropValue (.Yield (some e) ypos) pos x).wrap K H id id) fs s
  have hy : ∀ v, yieldOut env v = yieldValue v := fun v => by simp only [yieldOut, hco, Bool.false_eq_true, if_false]
  simp only [hy]
  refine sg_at ?_
  rw [Sem.bind_eq_wrap', Sem.bind_eq_wrap', Sem.wrap_wrap, Sem.wrap_wrap]
  refine sg_wrap (wpAny_mono h (fun v s' h' => ?_) fun _ _ x => x)
  refine sg_at ?_
  exact sg_yield hfs fun p => h' p _ fun v => rfl
theorem sg_func {body : List Stmt}
    (h : SegG (model prog w) A Φ (.func body env) ((execs body env).wrap (fun f => .pure (.done (.ret (match f with | .ret v => v | _ => .none))))
      (fun e => (leaving env e).wrap (fun _ => .raise e) .raise id id) id id) fs s) :
    SegG (model prog w) A Φ (.func body env) ((model prog w).den (.func body env)) fs s := by
  show SegG _ A Φ _ (.point [] fun _ => ((execs body env).onRaise (leaving env)) >>= _) fs s
  refine sg_point ?_
  rw [Sem.onRaise_eq_wrap, Sem.bind_eq_wrap', Sem.wrap_wrap]
  rw [Sem.wrap_congr (execs body env) _ _ (K' := fun f => .pure (.done (.ret (match f with | .ret v => v | _ => .none))))
    (H' := fun e => (leaving env e).wrap (fun _ => .raise e) .raise id id) (fun f => by cases f <;> rfl)
    (fun e => by rw [Sem.bind_eq_wrap, Sem.wrap_wrap]; rfl)]
  exact h
end

/-! ### the first turn -/
/-- what the first wake comes to: J the state's own word; no slot at all, or the first one is out -/
def FstP (prog : Program) (w : World) (A : Around) (env : Env) (N : Nat) (size code : Int) (low : List Addr) (J : Shared → Prop) (e : End) (s' : Shared) : Prop := match e with
  | .ret r => r = .ok (.ret .none) ∧ N = 0 ∧ J s'
  | .susp v g l k c p fs => (End.susp v g l k c p fs).quiet = true ∧ 0 < N ∧ (∃ t, v = .int (sl size code 0) t) ∧ J s' ∧ ∃ it : Addr, (∀ b ∈ low, b < it) ∧ LSy env it N size code 0 s'.heap ∧
      ∀ s'', Slp env it s' s'' → Seg (model prog w) A (RP (fun _ _ => True) env.locals it N) (YP (fun _ _ => True) env it N size code) (N - 1) s'' c (k (.send .none)) fs s''
section
variable {prog : Program} {w : World} {A : Around} {env : Env} {it : Addr} {N : Nat} {size code : Int}
theorem path_first {J : Shared → Prop} {low : List Addr} {pt p0 p0' p0'' p1 p2 p3 p4 p5 q1 q2 q3 q4 q5 q6 q7 q8 q9 q10 q11 : Pos} {k1 k2 : Nat} (T : PEnv env) (hi : interactive env = false) (hL : env.locals ≠ mainGlobals) (hiL : it ≠ env.locals) (hiG : it ≠ mainGlobals) (hz : size ≠ 0) (hlow : ∀ b ∈ low, b < it)
    (hJ : ∀ s s', J s → Mv env.locals it s s' → J s') {kf : Result → Sem PySem.Fin} {g : Bool → Bool} {l : List Value} {c : Code} {p : Pos} (hg : g false = false)
    (hA : (A.over (.forLoop (.Name "_" pt) (.ref it) (loopBody p0 p0' p0'' p1 p2 p3 p4 p5 q1 q2 q3 q4 q5 q6 q7 q8 q9 q10 q11 k1 k2) [] env) [.ret kf none (g false) l c p []]).handled = none)
    (hend0 : ∀ s, N = 0 → J s → SegG (model prog w) A (FstP prog w A env N size code low J) c (kf (.ok .next)) [] s)
    (hend : ∀ s₀ s, Jr (fun _ _ => True) env.locals it N s₀ s → Seg (model prog w) A (RP (fun _ _ => True) env.locals it N) (YP (fun _ _ => True) env it N size code) 0 s₀ c (kf (.ok .next)) [] s)
    {s : Shared} (x : LSt env it N size code 0 s.heap) (j : J s) :
    SegG (model prog w) A (FstP prog w A env N size code low J) (.forLoop (.Name "_" pt) (.ref it) (loopBody p0 p0' p0'' p1 p2 p3 p4 p5 q1 q2 q3 q4 q5 q6 q7 q8 q9 q10 q11 k1 k2) [] env)
        ((model prog w).den (.forLoop (.Name "_" pt) (.ref it) (loopBody p0 p0' p0'' p1 p2 p3 p4 p5 q1 q2 q3 q4 q5 q6 q7 q8 q9 q10 q11 k1 k2) [] env)) [.ret kf none (g false) l c p []] s := by
  refine sg_forLoop (fun v => rfl) ?_
  by_cases hN : N = 0
  · refine wpAny_pyNext_range_end hA x.rg (by omega) fun h' eb => ?_
    show SegG _ _ _ (.block [] env) ((model prog w).den (.block [] env)) _ _
    exact sg_leaf (.ok .next) (hend0 _ hN (hJ _ _ j ⟨h', s.toks, rfl, fun b o _ hb e => eb b o hb e⟩))
  · have W := Walks.range (prog := prog) (w := w) hA it 0 1 N
    refine W.item 0 s _ _ (by omega) x.rg fun v h1 t1 hv rg1 k1' => ?_
    obtain ⟨tv, rfl⟩ := hv
    have kk : ∀ b o, b ≠ it → s.heap.get? b = some o → h1.get? b = some o := fun b o hb e => k1' b o (by simpa using hb) e
    have f1 : Fm env h1 size (sl size code 0) (pu code 0) := x.fm.keeps fun b o hb e => kk b o (by rcases hb with hb | hb <;> rw [hb] <;> first | exact Ne.symm hiL | exact Ne.symm hiG) e
    have j1 : J { s with heap := h1, toks := t1 } := hJ _ _ j ⟨h1, t1, rfl, fun b o _ hb e => kk b o hb e⟩
    show wpAny _ _ (assign (.Name "_" pt) env _) _ _ _
    obtain ⟨⟨m, hn, ⟨a1, e1⟩, ⟨a2, e2⟩, ⟨a3, e3⟩⟩, ⟨mg, hg', gq⟩⟩ := f1
    have n1 : ¬ (("slot" : Str) = "_") := by decide
    have n2 : ¬ (("push" : Str) = "_") := by decide
    have n3 : ¬ (("size" : Str) = "_") := by decide
    refine wpAny_assign_Name (wpAny_storeName_local (s := { s with heap := h1, toks := t1 }) T.low hn (fun h2 hn2 hs2 => ?_) (by rw [T.kind]; rfl))
    have f2 : Fm env h2 size (sl size code 0) (pu code 0) := ⟨⟨_, hn2, ⟨a1, by rw [if_neg n1]; exact e1⟩, ⟨a2, by rw [if_neg n2]; exact e2⟩, ⟨a3, by rw [if_neg n3]; exact e3⟩⟩, ⟨mg, hg'.sameBut hs2 (Ne.symm hL), gq⟩⟩
    have j2 : J { s with heap := h2, toks := t1 + 1 } := hJ _ _ j1 ⟨h2, t1 + 1, rfl, fun b o hb _ e => (hs2.2 b hb).trans e⟩
    have y2 : LSy env it N size code 0 h2 := ⟨f2, (hs2.2 it hiL).trans rg1⟩
    refine sg_execs_cons ?_
    refine sg_Expr_Yield (by rfl) ?_ T.co hi
    obtain ⟨⟨m2, hm2, ⟨b1, c1⟩, _⟩, _⟩ := f2
    refine nm (s := { s with heap := h2, toks := t1 + 1 }) T T.slot hm2 c1 ?_
    intro pp kk' hkk
    refine ⟨?_, by omega, ⟨b1, rfl⟩, j2, it, hlow, y2, fun s'' z => ?_⟩
    · show (!(false || (g false || false))) = true
      rw [hg]; rfl
    rw [hkk]
    show Seg _ _ _ _ _ s'' _ (((dropValue (.Yield (some (.Name "slot" p0)) p0') p0'' .none)).wrap _ _ id id) _ s''
    have y3 := y2.keeps (s := { s with heap := h2, toks := t1 + 1 }) (s' := s'') z
    show Seg _ _ _ _ _ s'' _ ((execs [stPush p1 p2 p3 p4 p5, stSlot q1 q2 q3 q4 q5 q6 q7 q8 q9 q10 q11 k1 k2] env).wrap _ _ id id) _ s''
    refine seg_execs_cons (seg_wrap (run_push T hL y3.fm fun h4 t4 f4 k4 => ?_))
    show Seg _ _ _ _ _ s'' _ ((execs [stSlot q1 q2 q3 q4 q5 q6 q7 q8 q9 q10 q11 k1 k2] env).wrap _ _ id id) _ _
    refine seg_execs_cons (seg_wrap (run_slot (s := { s'' with heap := h4, toks := t4 }) T hL hz f4 fun h5 t5 f5 k5 => ?_))
    show Seg _ _ _ _ _ s'' _ ((execs [] env).wrap _ _ id id) _ _
    refine seg_execs_nil ?_
    refine seg_again rfl ?_
    refine path_seg T hi hL hiL hiG hz (fun _ _ _ _ _ => trivial) hg hA hend (N - 1) 1 s'' _ (by omega) ⟨f5, (k5 it _ hiL (k4 it _ hiL y3.rg))⟩ ?_
    unfold Jr
    rw [if_neg (by omega)]
    exact ⟨h5, t5, rfl, fun b o hb _ e => k5 b o hb (k4 b o hb e)⟩
end
end Pth
set_option Elab.async false
set_option linter.all false
set_option maxRecDepth 100000
set_option maxHeartbeats 1000000
/-! Pm: path is called -/
namespace Pth
open PySem PySem.Spec PyProof.Rows L2 GenW
theorem run_range {X : Cx} {pins : List (Addr × Obj)} {σ : L2.St} {H : Hp} {s : Shared} {j : Int} {p pm pos : Pos} (I : Inv X pins σ H s) (hg : Gl X "range") (hm : X.mg "range" = none) (h2 : X.N[2]? = some ("many" : Str)) (hv : Vis X.env.scope "many") (hσ : σ[2]? = some (some (V.int j)))
    (j0 : 0 ≤ j) (j1 : j < 2 ^ 62) :
    wpAny (model X.prog X.w) X.A (eval (.Call (.Name "range" p) [.Name "many" pm] [] pos) X.env) (fun v s1 => wpAny (model X.prog X.w) X.A (pyIter v) (fun itv s2 => ∃ it : Addr, itv = .ref it ∧ X.env.locals < it ∧ (∀ p ∈ X.pn ++ pins, p.1 < it) ∧
      IsRangeIter s2.heap it (0 + ((0 : Nat) : Int) * 1) ((j.toNat : Int) - ((0 : Nat) : Int)) 1 ∧ Inv X pins σ H s2) X.xe s1) X.xe s := by
  refine Call_ (ld_blt I hg hm boot_range (PyProof.Rows.callWith_type1 (thn ((pa_cons (pe_var (i := 2) h2 hv) pa_nil).run pos pins s σ H (fun vs H1 => vs = [.int j] ∧ H1 = H) I ⟨_, hσ, rfl, rfl⟩) fun us s1 ⟨vs, H1, I1, r1, q1⟩ => ?_) rfl rfl))
  obtain ⟨e1, e2⟩ := q1
  subst e1
  subst e2
  cases r1 with
  | cons r rr =>
    cases rr
    obtain ⟨t, rfl⟩ := r
    refine call_range_1 ?_
    refine wpAny_pyIter_range (IsRange.new ..) (small_one (by omega) (by omega) (by omega) j1) ?_
    have I2 : Inv X pins σ H1 { s1 with heap := s1.heap.push { cls := .type "range", data := .fields #[.int 0 s1.toks, .int j t, .int 1 (s1.toks + 1)] }, toks := s1.toks + 1 + 1 } := I1.kept (t' := s1.toks + 1 + 1) fun b o e => Heap.get?_push_of_some _ e
    have hsz : s1.heap.objs.size < (s1.heap.push { cls := .type "range", data := .fields #[.int 0 s1.toks, .int j t, .int 1 (s1.toks + 1)] }).objs.size := by rw [Heap.size_push]; exact Nat.lt_succ_self _
    refine ⟨_, rfl, Nat.lt_trans I1.lt hsz, fun p hp => Nat.lt_trans (Heap.lt_size (I1.pin p hp).1) hsz, ?_, I2.kept (t' := s1.toks + 1 + 1) fun b o e => Heap.get?_push_of_some _ e⟩
    have e1 : (0 : Int) + ((0 : Nat) : Int) * 1 = 0 := by simp
    have e2 : ((j.toNat : Nat) : Int) - ((0 : Nat) : Int) = Builtin.Range.rangeSize 0 j 1 := by rw [rangeSize_one]; split <;> omega
    rw [e1, e2]
    exact Heap.get?_push_size _ rfl

/-- what a call of path gives: a generator that has not begun; what its first wake comes to, from any state that has all that stood there -/
structure PMade (P : Program) (w : World) (k : Nat) (outer : List Env) (H : Hp) (sC : Shared) (N : Nat) (size code : Int) (a : Addr) (g : Nat) (c : Code) (env : Env) (s' : Shared) : Prop where
  T : PEnv env
  nG : env.locals ≠ mainGlobals
  young : sC.heap.objs.size ≤ env.locals
  La : env.locals < a
  aE : a + 1 = s'.heap.objs.size
  gen : s'.heap.IsGen a g
  fresh : s'.gens[g]? = some (.fresh c)
  os : s'.os = sC.os
  bare : AllBare s'.gens
  lim : s'.heap.NoLimit
  keep : ∀ b o, sC.heap.get? b = some o → s'.heap.get? b = some o
  wake : ∀ (A : Around) (s2 : Shared) (xs : List (Addr × Obj)), Room k A → A.frames = some outer → (∀ b o, s'.heap.get? b = some o → s2.heap.get? b = some o) → s2.os = sC.os → AllBare s2.gens → (∀ p ∈ xs, s2.heap.get? p.1 = some p.2 ∧ a < p.1 ∧ ∀ v, p.2.data ≠ .cell v) →
     SegG (model P w) A (FstP P w A env N size code (a :: xs.map (·.1)) (fun s3 => s3.os = sC.os ∧ AllBare s3.gens ∧ Un (frs outer) [] H H sC.heap s3.heap ∧ HOk P w H s3.heap ∧ s3.heap.IsGen a g ∧ s3.heap.NoLimit ∧ ∀ p ∈ xs, s3.heap.get? p.1 = some p.2)) c ((model P w).den c) [] s2
def E00 : XK := fun _ _ _ => False
section
variable {P : Program} {w : World} {K : PySem.W.Frag} {mg : Str → Option Value} {base : Heap}
/-- path's names -/
abbrev pN : List Str := ["code", "size", "many", "slot", "push", "_"]
abbrev pP : List Str := ["code", "size", "many"]
structure PSc (sc : Scope) : Prop where
  S : GScope pN pP sc
  co : sc.isCoroutine = false
  slot : sc.names.lookup ("slot" : Str) = some NameKind.local
  push : sc.names.lookup ("push" : Str) = some NameKind.local
  size : sc.names.lookup ("size" : Str) = some NameKind.local
  many : sc.names.lookup ("many" : Str) = some NameKind.local
  low : sc.names.lookup ("_" : Str) = some NameKind.local
  share : sc.names.lookup ("PUSH_SHARE" : Str) = some NameKind.globalImplicit
  range : sc.names.lookup ("range" : Str) = some NameKind.globalImplicit
theorem PSc.env {sc : Scope} (S : PSc sc) {q : Str} {L f : Addr} {cd : Value} : PEnv (envOfC q sc L f cd) := ⟨S.S.kind, S.co, rfl, S.slot, S.push, S.size, S.low, S.share⟩
theorem path_call {k : Nat} {f : Addr} {name qual : Str} {params : Arguments} {l5 : List Stmt} {scope : Scope} {dV kV doc pm cdv ct oc : Value} {an od : Option Addr} {osl : Array (Option Value)} {tsh : Tok}
    {pt pr pmm pcl pf p0 p0' p0'' p1 p2 p3 p4 p5 q1 q2 q3 q4 q5 q6 q7 q8 q9 q10 q11 : Pos} {k1 k2 : Nat} {size code many : Int}
    (lk : K.lookup f = some ⟨oc, od, .func (PySem.W.fnOf name qual params (l5 ++ [.For (.Name "_" pt) (.Call (.Name "range" pr) [.Name "many" pmm] [] pcl) (loopBody p0 p0' p0'' p1 p2 p3 p4 p5 q1 q2 q3 q4 q5 q6 q7 q8 q9 q10 q11 k1 k2) [] pf]) scope dV kV doc pm an cdv ct), osl⟩)
    (hcd : PySem.W.codeIn K cdv qual = true) (S : PSc scope) (msh : mg "PUSH_SHARE" = some (.int 32 tsh)) (mra : mg "range" = none) (hm0 : 0 ≤ many) (hm1 : many < 2 ^ 62) (hz : size ≠ 0)
    (h5 : ∀ (A : Around) (outer : List Env) (s : Shared) (H : Hp) (pn : List (Addr × Obj)), Room k (A.deeper (envOfC qual scope s.heap.objs.size f cdv)) →
      ∃ t, PSs (gcxOf P w K mg base pN qual scope f cdv A outer s H E00 pn) l5 t ∧ t { nx := fun σ' H' => σ' = [some (.int code), some (.int size), some (.int many), some (.int (code.fmod size)), some (.int code), none] ∧ H' = H, rt := fun _ _ => False } (start pN [.int code, .int size, .int many]) H)
    {A : Around} {outer : List Env} {s : Shared} {H : Hp} {args : Args} {us : List Value} (hr : Room (k + 1) A) (e0 : Env0 P w K mg base A outer s H)
    (hb : BindsTo s (PySem.W.fnOf name qual params (l5 ++ [.For (.Name "_" pt) (.Call (.Name "range" pr) [.Name "many" pmm] [] pcl) (loopBody p0 p0' p0'' p1 p2 p3 p4 p5 q1 q2 q3 q4 q5 q6 q7 q8 q9 q10 q11 k1 k2) [] pf]) scope dV kV doc pm an cdv ct) args (pP.zip us))
    (r : Vals [.int code, .int size, .int many] us) :
    codeAny (model P w) A (.call (.ref f) args) (fun r s' => match r with | .ok (.ret u) => ∃ a g c env, u = .ref a ∧ PMade P w (k + 1) outer H s many.toNat size code a g c env s' | _ => False) s := by
  have hl : [V.int code, .int size, .int many].length = pP.length := rfl
  have KX : K.In s.heap := e0.mod.kin.keeps fun b o e => (e0.bs b o e).1
  have lim : s.heap.NoLimit := e0.mod.nolimit.keeps fun b o e => (e0.bs b o e).1
  have hkind : ∀ y ∈ pP.zip us, scope.names.lookup y.1 = some .local ∨ (scope.names.lookup y.1 = some .cell ∧ ((cellsFrom (s.heap.objs.size + 1) scope.names []).lookup y.1).isSome = true) := fun ⟨n, v⟩ hy => by
    rcases S.S.par n (List.of_mem_zip hy).1 with q | q
    · exact .inl q
    · exact .inr ⟨q, PySem.W.cellsFrom_some _ _ _ (.inl q)⟩
  refine codeAny_call_generator hr.depth (KX _ _ lk) rfl S.S.co S.S.gen rfl (PySem.W.codeRec_of KX hcd) (hb _ _ _ _ ?_)
  refine wpAny_newFunctionEnv_cells S.S.kind hkind fun env he s1 x => ?_
  subst he
  have lim1 : s1.heap.NoLimit := lim.keeps x.toInCall.keep
  refine ⟨lim1, ?_⟩
  obtain ⟨h1, tk, es1, hk1⟩ := x.done
  have os1 : s1.os = s.os := by rw [es1]
  have gen1 : s1.gens = s.gens := by rw [es1]
  have lt1 : s.heap.objs.size < s1.heap.objs.size := x.toInCall.ns.lt
  have sz1 : s.heap.objs.size ≤ s1.heap.objs.size := Nat.le_of_lt lt1
  have kp1 : ∀ b o, s.heap.get? b = some o → s1.heap.get? b = some o := x.toInCall.keep
  have main : ∀ (go : Obj) (nm' qn : Value) (tk2 : Nat), go.cls = .type "generator" → go.data = .fields #[.int s1.gens.size 0, nm', qn] → go.slots = #[] → (∀ h : Heap, (h.push go).get? h.objs.size = some go) →
      PMade P w (k + 1) outer H s many.toNat size code s1.heap.objs.size s1.gens.size (.func (l5 ++ [.For (.Name "_" pt) (.Call (.Name "range" pr) [.Name "many" pmm] [] pcl) (loopBody p0 p0' p0'' p1 p2 p3 p4 p5 q1 q2 q3 q4 q5 q6 q7 q8 q9 q10 q11 k1 k2) [] pf]) (envOfC qual scope s.heap.objs.size f cdv)) (envOfC qual scope s.heap.objs.size f cdv)
        { s1 with gens := s1.gens.push (.fresh (.func (l5 ++ [.For (.Name "_" pt) (.Call (.Name "range" pr) [.Name "many" pmm] [] pcl) (loopBody p0 p0' p0'' p1 p2 p3 p4 p5 q1 q2 q3 q4 q5 q6 q7 q8 q9 q10 q11 k1 k2) [] pf]) (envOfC qual scope s.heap.objs.size f cdv))), toks := tk2, heap := s1.heap.push go } := by
    intro go nm' qn tk2 hgc hgd0 hgs hgp
    have hgen : ∀ h : Heap, h.get? s1.heap.objs.size = some go → h.IsGen s1.heap.objs.size s1.gens.size := fun h e => ⟨go, nm', qn, e, hgc, hgd0, hgs⟩
    have hpushed : (s1.heap.push go).get? s1.heap.objs.size = some go := hgp _
    have hG : mainGlobals < s.heap.objs.size := by
      obtain ⟨o, es, ep, ho, _⟩ := e0.mod.glob
      exact Heap.lt_size (e0.bs _ o ho).1
    have T : PEnv (envOfC qual scope s.heap.objs.size f cdv) := S.env
    have hint : interactive (envOfC qual scope s.heap.objs.size f cdv) = false := by
      unfold interactive
      rw [show (envOfC qual scope s.heap.objs.size f cdv).scope.kind = .function from S.S.kind]
      rfl
    have nG : (envOfC qual scope s.heap.objs.size f cdv).locals ≠ mainGlobals := Nat.ne_of_gt hG
    refine ⟨T, nG, Nat.le_refl _, lt1, ?_, hgen _ hpushed, Array.getElem?_push_size .., os1, ?_, lim1.keeps fun b o e => Heap.get?_push_of_some _ e, fun b o e => Heap.get?_push_of_some _ (kp1 b o e), ?_⟩
    · show _ = (s1.heap.push _).objs.size
      rw [Heap.size_push]
    · exact AllBare.push (by rw [gen1]; exact e0.bare) rfl
    intro Aw s2 xs hrw hfr hk2 hos hba hxs
    have e0w : Env0 P w K mg base Aw outer s H := ⟨hfr, e0.mod, e0.bs, e0.bsz, e0.funs, e0.frf, e0.hok, e0.bare⟩
    obtain ⟨t, ht, hq⟩ := h5 Aw outer s H [(s1.heap.objs.size, go)] (hrw.deeper _)
    have I1 : Inv (gcxOf P w K mg base pN qual scope f cdv Aw outer s H E00 []) [] (start pN [.int code, .int size, .int many]) H s1 := inv_startG S.S hrw.hd e0w hl r x
    have kp2 : ∀ b o, s1.heap.get? b = some o → s2.heap.get? b = some o := fun b o e => hk2 b o (Heap.get?_push_of_some _ e)
    have I2 : Inv (gcxOf P w K mg base pN qual scope f cdv Aw outer s H E00 []) [] (start pN [.int code, .int size, .int many]) H s2 :=
      I1.call' (ch := []) (hos.trans os1.symm) (Un.kept kp2) (I1.hok.kept kp2) hba fun b z => by simp at z
    have hea : s2.heap.get? s1.heap.objs.size = some go := hk2 s1.heap.objs.size go hpushed
    have hgd : ∀ v, go.data ≠ .cell v := fun v q => by rw [hgd0] at q; cases q
    have I3 : Inv (gcxOf P w K mg base pN qual scope f cdv Aw outer s H E00 [(s1.heap.objs.size, go)]) xs (start pN [.int code, .int size, .int many]) H s2 := Inv.pinnedG I2 fun p hp => by
      rcases List.mem_append.mp hp with z | z
      · rw [List.mem_singleton.mp z]
        exact ⟨hea, I1.hok.fresh (Nat.le_refl _), Nat.ne_of_gt lt1, I1.nofs (Nat.le_refl _), hgd⟩
      · obtain ⟨x1, x2, x3⟩ := hxs p z
        exact ⟨x1, I1.hok.fresh (Nat.le_of_lt x2), Nat.ne_of_gt (Nat.lt_trans lt1 x2), I1.nofs (Nat.le_of_lt x2), x3⟩
    -- the state's own word
    have word : ∀ {σ' : L2.St} {s3 : Shared}, Inv (gcxOf P w K mg base pN qual scope f cdv Aw outer s H E00 [(s1.heap.objs.size, go)]) xs σ' H s3 →
        (s3.os = s.os ∧ AllBare s3.gens ∧ Un (frs outer) [] H H s.heap s3.heap ∧ HOk P w H s3.heap ∧ s3.heap.IsGen s1.heap.objs.size s1.gens.size ∧ s3.heap.NoLimit ∧ ∀ p ∈ xs, s3.heap.get? p.1 = some p.2) := fun {σ' s3} J =>
      ⟨J.os, J.bare, J.base, J.hok, hgen _ (J.pin (s1.heap.objs.size, go) (List.mem_append_left _ (List.mem_singleton.mpr rfl))).1, J.nolimit, fun p hp => (J.pin p (List.mem_append_right _ hp)).1⟩
    have fall : ∀ (e : Value) (s' : Shared), (gcxOf P w K mg base pN qual scope f cdv Aw outer s H E00 [(s1.heap.objs.size, go)]).xe e s' → ∀ Φ : End → Shared → Prop, SegG (model P w) Aw Φ (.func (l5 ++ [.For (.Name "_" pt) (.Call (.Name "range" pr) [.Name "many" pmm] [] pcl) (loopBody p0 p0' p0'' p1 p2 p3 p4 p5 q1 q2 q3 q4 q5 q6 q7 q8 q9 q10 q11 k1 k2) [] pf]) (envOfC qual scope s.heap.objs.size f cdv))
        (Sem.wrap (fun _ => .raise e) .raise id id (leaving (envOfC qual scope s.heap.objs.size f cdv) e)) [] s' := fun e s' hx Φ => by
      refine sg_wrap ?_
      rw [over_func]
      refine wpAny_mono (show wpAny (model P w) (Aw.deeper (envOfC qual scope s.heap.objs.size f cdv)) (leaving (envOfC qual scope s.heap.objs.size f cdv) e) (fun _ s'' => CX P w outer H s E00 e s'' ∧ ∀ p ∈ [(s1.heap.objs.size, go)], s''.heap.get? p.1 = some p.2) (fun _ _ => False) s' from hx) (fun _ s'' q => ?_) fun _ s'' q => q.elim
      obtain ⟨⟨_, _, _, _, _, _, _, _, _, _, _, _, z⟩, _⟩ := q
      exact z.elim
    refine sg_func (sg_app (sg_wrap ?_))
    rw [over_func]
    refine wpAny_mono (ht.run xs s2 _ H _ I3 hq) (fun fl s3 hs => ?_) fun e s' hx => fall e s' hx _
    cases fl with
    | brk => obtain ⟨_, _, _, q⟩ := hs; exact False.elim q
    | cont => obtain ⟨_, _, _, q⟩ := hs; exact False.elim q
    | ret u => obtain ⟨_, _, _, _, _, q⟩ := hs; exact False.elim q
    | next =>
      obtain ⟨σ3, H3, J3, e3, e4⟩ := hs
      subst e3
      subst e4
      refine sg_execs_cons (sg_For (fun _ => rfl) ?_)
      rw [over_func]
      have hvis : Vis scope ("many" : Str) := .inl S.many
      refine wpAny_mono (run_range (j := many) (pm := pmm) (p := pr) (pos := pcl) J3 S.range mra rfl hvis rfl hm0 hm1) (fun v s4 h4 => wpAny_mono h4 (fun itv s5 h5' => ?_) fun e s' hx => fall e s' hx _) fun e s' hx => fall e s' hx _
      obtain ⟨it, rfl, hLit, hpit, hrg, J5⟩ := h5'
      have hLit' : s.heap.objs.size < it := hLit
      have hait : s1.heap.objs.size < it := hpit (s1.heap.objs.size, go) (List.mem_append_left _ (List.mem_singleton.mpr rfl))
      have hlows : ∀ b ∈ s1.heap.objs.size :: xs.map (·.1), b < it := fun b hb => by
        rcases List.mem_cons.mp hb with z | z
        · rw [z]; exact hait
        · obtain ⟨p, hp, rfl⟩ := List.mem_map.mp z
          exact hpit p (List.mem_append_right _ hp)
      have hit0 : it ≠ (envOfC qual scope s.heap.objs.size f cdv).locals := Nat.ne_of_gt hLit'
      have hitG : it ≠ mainGlobals := Nat.ne_of_gt (Nat.lt_trans hG hLit')
      have fm5 : Fm (envOfC qual scope s.heap.objs.size f cdv) s5.heap size (code.fmod size) code := by
        obtain ⟨m, hn, hl5⟩ := J5.loc
        have get : ∀ (i : Nat) (x : Str) (n : Int), pN[i]? = some x → scope.names.lookup x = some NameKind.local → ([some (.int code), some (.int size), some (.int many), some (.int (code.fmod size)), some (.int code), none] : L2.St)[i]? = some (some (.int n)) → ∃ t, m x = some (.int n t) := fun i x n h1 h2 h3 => by
          obtain ⟨u, ru, lu⟩ := hl5 i x _ h1 h3 (.inl h2)
          obtain ⟨t, rfl⟩ := ru
          rcases lu with ⟨_, hm⟩ | ⟨hk, _⟩
          · exact ⟨t, hm⟩
          · have hk' : scope.names.lookup x = some .cell ∨ scope.names.lookup x = some .free := hk
            rw [h2] at hk'
            rcases hk' with z | z <;> cases z
        exact ⟨⟨m, hn, get 3 _ _ rfl S.slot rfl, get 4 _ _ rfl S.push rfl, get 1 _ _ rfl S.size rfl⟩, ⟨mg, J5.mod.glob.keeps J5.bk, tsh, msh⟩⟩
      intro pp
      have ltL : ∀ b o, s.heap.get? b = some o → b ≠ s.heap.objs.size ∧ b ≠ it := fun b o e => ⟨Nat.ne_of_lt (Heap.lt_size e), Nat.ne_of_lt (Nat.lt_trans (Heap.lt_size e) hLit')⟩
      refine path_first T hint nG hit0 hitG hz hlows (fun sa sb hja hm => ?_) rfl ?_ (fun sa hN hja => ?_) (fun s₀ sa hja => ?_) ⟨fm5, hrg⟩ (word J5)
      · obtain ⟨h', tk', rfl, hk⟩ := hm
        obtain ⟨a1, a2, a3, a4, a5, a6, a7⟩ := hja
        have hLn : H3 s.heap.objs.size = none := e0.hok.fresh (Nat.le_refl _)
        have hIn : H3 it = none := e0.hok.fresh (Nat.le_of_lt hLit')
        have nt : ∀ b u, H3 b = some u → b ≠ s.heap.objs.size ∧ b ≠ it := fun b u e => ⟨ne_of_none e hLn, ne_of_none e hIn⟩
        have hcS : cStatics < s.heap.objs.size := let ⟨_, hn, _⟩ := lim; hn.lt
        refine ⟨a1, a2, ⟨fun b o e n hb hx => ?_, fun b o e n hb hx => ?_, a3.free, fun b o e hx => ?_, a3.tups, a3.frzs, a3.tbls⟩, fun b u e => ?_, ?_, ?_, fun p hp => hk p.1 p.2 (Nat.ne_of_gt (Nat.lt_trans lt1 (hxs p hp).2.1)) (Nat.ne_of_lt (hlows p.1 (List.mem_cons_of_mem _ (List.mem_map.mpr ⟨p, hp, rfl⟩)))) (a7 p hp)⟩
        · exact hk b o (ltL b o e).1 (ltL b o e).2 (a3.keep b o e n hb hx)
        · obtain ⟨sl', e'⟩ := a3.slot b o e n hb hx
          exact ⟨sl', hk b _ (ltL b o e).1 (ltL b o e).2 e'⟩
        · obtain ⟨o', e'⟩ := a3.there b o e hx
          exact ⟨o', hk b _ (ltL b o e).1 (ltL b o e).2 e'⟩
        · refine (a4 b u e).stay (fun c v hc q => ?_) (fun _ z => z) fun _ _ z => z
          rcases hc with hc | hc
          · rw [hc] at q ⊢
            exact hk b v (nt b u e).1 (nt b u e).2 q
          · exact hk c v (nt c _ hc).1 (nt c _ hc).2 q
        · obtain ⟨o, n1, n2, ho, z⟩ := a5
          exact ⟨o, n1, n2, hk _ o (Nat.ne_of_gt lt1) (Nat.ne_of_lt hait) ho, z⟩
        · obtain ⟨mc, hns, hnn⟩ := a6
          exact ⟨mc, hns.at' fun o e => hk _ o (Nat.ne_of_lt hcS) (Nat.ne_of_lt (Nat.lt_trans hcS hLit')) e, hnn⟩
      · exact hrw.hd
      · exact sg_end (.ok (.ret .none)) ⟨rfl, hN, hja⟩
      · exact seg_end (.ok (.ret .none)) ⟨rfl, rfl, hja⟩
  exact ⟨_, _, _, _, rfl, main _ _ _ _ rfl rfl rfl fun h => Heap.get?_push_size _ rfl⟩
end
end Pth
set_option Elab.async false
set_option linter.all false
set_option maxRecDepth 100000
set_option maxHeartbeats 1000000
/-! Pf: a for over path(..), its body by a judgement; list(path(..)) -/
namespace Pth
open PySem PySem.Spec PyProof.Rows L2 GenW
open Sem (wp)
section
variable {M : Model}
theorem resume_first {A : Around} {Φ : End → Shared → Prop} {E : Value → Shared → Prop} {s : Shared} {g : Nat} {c : Code} {l : List Value} {α : Type} {k : GenResult → Sem α} {Q : α → Shared → Prop} (hg : s.gens[g]? = some (.fresh c))
    (hgo : SegG M A Φ c (M.den c) [] (s.setGen g .running))
    (hR : ∀ e s₁, Φ e s₁ → e.quiet = true ∧ wpAny M A (k e.result) Q E (s₁.setGen g e.genState)) : wpAny M A (.resume g (.send .none) l k) Q E s := by
  intro Γ p hΓ
  rw [Sem.wp_resume]
  obtain ⟨e₁, s₁, hr, he⟩ := hgo (Γ.wake c p) p rfl (hΓ.wake c p)
  obtain ⟨hq, hw⟩ := hR e₁ s₁ he
  exact ⟨_, _, by unfold Wakes; rw [hg]; exact ⟨e₁, s₁, hr, hq, rfl, rfl⟩, hw Γ p hΓ⟩
theorem resume_later {A : Around} {R : GenEnd} {Y : Protocol} {n : Nat} {E : Value → Shared → Prop} {s : Shared} {g : Nat} {k₀ : Resume → Sem PySem.Fin} {l₀ : List Value} {c₀ : Code} {p₀ : Pos} {fs₀ : List Frame} {cl₀ : Bool} {r : Resume} {l : List Value} {α : Type} {k : GenResult → Sem α} {Q : α → Shared → Prop}
    (hg : s.gens[g]? = some (.suspended k₀ l₀ c₀ p₀ fs₀ cl₀))
    (hgo : Seg M A R Y n (s.setGen g .running) c₀ (k₀ r) fs₀ (s.setGen g .running))
    (hR : ∀ e s₁, SegEnd R Y n (Seg.next M A R Y n) (s.setGen g .running) e s₁ → e.quiet = true ∧ wpAny M A (k e.result) Q E (s₁.setGen g e.genState)) : wpAny M A (.resume g r l k) Q E s := by
  intro Γ p hΓ
  rw [Sem.wp_resume]
  obtain ⟨e₁, s₁, hr, he⟩ := seg_iff.mp hgo (Γ.wake c₀ p) p₀ rfl (hΓ.wake c₀ p)
  obtain ⟨hq, hw⟩ := hR e₁ s₁ he
  exact ⟨_, _, by unfold Wakes; rw [hg]; exact ⟨e₁, s₁, hr, hq, rfl, rfl⟩, hw Γ p hΓ⟩
end
section
variable {P : Program} {w : World} {A : Around} {E : Value → Shared → Prop} {s : Shared}
theorem next_first {a : Addr} {g : Nat} {c : Code} {Φ : End → Shared → Prop} {Q : Option Value → Shared → Prop} (hh : A.handled = none) (hl : s.heap.NoLimit) (hroom : A.depth < recursionLimit) (hg : s.heap.IsGen a g) (hgs : s.gens[g]? = some (.fresh c))
    (hgo : SegG (model P w) A.in1 Φ c ((model P w).den c) [] (s.setGen g .running))
    (hR : ∀ e s₁, Φ e s₁ → (e = .ret (.ok (.ret .none)) ∧ ∀ h', (∀ b o, s₁.heap.get? b = some o → h'.get? b = some o) → Q none { s₁.setGen g .finished with heap := h' }) ∨
      ∃ v gd l k c' p' fs, e = .susp v gd l k c' p' fs ∧ e.quiet = true ∧ Q (some v) (s₁.setGen g e.genState)) :
    wpAny (model P w) A (pyNext (.ref a)) Q E s := by
  unfold pyNext
  refine wpAny_bind (wpAny_attempt (wpAny_callSpecial?_slot (name := Str.ofString "__next__") hg.typeIs slot_gen_next
    (wpAny_call_entry slot_gen_next hg.typeIs entry_gen_next ?_ (args_gen_next _))))
  show wpAny _ A.in1 (Builtin.Generator.genWake (.ref a) (.send .none)) _ _ s
  unfold Builtin.Generator.genWake
  refine wpAny_bind (wpAny_holding (wpAny_genNumber hg (wpAny_bind (wpAny_genState hgs ?_))))
  refine wpAny_bind (wpAny_roomToWake hl hroom ?_)
  show wpAny _ A.in1 (.resume g (.send .none) [] _) _ _ s
  refine resume_first hgs hgo fun e s₁ he => ?_
  rcases hR e s₁ he with ⟨rfl, h⟩ | ⟨v, gd, l, k, c', p', fs, rfl, hq, h⟩
  · refine ⟨rfl, ?_⟩
    show wpAny _ A.in1 (newExc (.type "StopIteration") [] >>= _) _ _ _
    refine wpAny_bind ?_
    simp only [newExc, newTuple]
    refine wpAny_bind (wpAny_newObj_type ?_ (by size_fits))
    refine wpAny_bind (m := firstArgMember _ _) (wpAny_of_eq (a := Value.none) (by first | rfl | (simp only [firstArgMember]; rfl)) ?_)
    refine wpAny_newObj_type ?_ (by size_fits)
    simp only [raiseNew]
    refine wpAny_bind (wpAny_bind (wpAny_handled ?_))
    first | rw [show A.in1.handled = none from hh] | rw [hh]
    refine wpAny_throw ?_
    refine wpAny_bind (wpAny_isInstance (T := "StopIteration") (b := true) ⟨_, Heap.get?_push_size _ rfl, rfl⟩ isSubtype_stop ?_)
    exact wpAny_pure (h _ fun b o hb => Heap.get?_push_of_some _ (Heap.get?_push_of_some _ hb))
  · exact ⟨hq, wpAny_pure ⟨v, rfl, wpAny_pure h⟩⟩
theorem next_later {a : Addr} {g n : Nat} {R : GenEnd} {Y : Protocol} {k₀ : Resume → Sem PySem.Fin} {l₀ : List Value} {c₀ : Code} {p₀ : Pos} {fs₀ : List Frame} {cl₀ : Bool} {Q : Option Value → Shared → Prop} (hh : A.handled = none) (hl : s.heap.NoLimit) (hroom : A.depth < recursionLimit) (hg : s.heap.IsGen a g)
    (hgs : s.gens[g]? = some (.suspended k₀ l₀ c₀ p₀ fs₀ cl₀))
    (hgo : Seg (model P w) A.in1 R Y n (s.setGen g .running) c₀ (k₀ (.send .none)) fs₀ (s.setGen g .running))
    (hR : ∀ r s₁, R n (s.setGen g .running) r s₁ → r = .ok (.ret .none) ∧ ∀ h', (∀ b o, s₁.heap.get? b = some o → h'.get? b = some o) → Q none { s₁.setGen g .finished with heap := h' })
    (hY : ∀ v gd l k c' p' fs s₁, (End.susp v gd l k c' p' fs).quiet = true → Y (n - 1) (s.setGen g .running) v s₁ (fun r s'' => Seg.next (model P w) A.in1 R Y n c' (k r) fs s'') → Q (some v) (s₁.setGen g (End.susp v gd l k c' p' fs).genState)) :
    wpAny (model P w) A (pyNext (.ref a)) Q E s := by
  unfold pyNext
  refine wpAny_bind (wpAny_attempt (wpAny_callSpecial?_slot (name := Str.ofString "__next__") hg.typeIs slot_gen_next
    (wpAny_call_entry slot_gen_next hg.typeIs entry_gen_next ?_ (args_gen_next _))))
  show wpAny _ A.in1 (Builtin.Generator.genWake (.ref a) (.send .none)) _ _ s
  unfold Builtin.Generator.genWake
  refine wpAny_bind (wpAny_holding (wpAny_genNumber hg (wpAny_bind (wpAny_genState hgs ?_))))
  refine wpAny_bind (wpAny_roomToWake hl hroom ?_)
  show wpAny _ A.in1 (.resume g (.send .none) [] _) _ _ s
  refine resume_later hgs hgo fun e s₁ he => ?_
  cases e with
  | ret r =>
    obtain ⟨rfl, h⟩ := hR r s₁ he
    refine ⟨rfl, ?_⟩
    show wpAny _ A.in1 (newExc (.type "StopIteration") [] >>= _) _ _ _
    refine wpAny_bind ?_
    simp only [newExc, newTuple]
    refine wpAny_bind (wpAny_newObj_type ?_ (by size_fits))
    refine wpAny_bind (m := firstArgMember _ _) (wpAny_of_eq (a := Value.none) (by first | rfl | (simp only [firstArgMember]; rfl)) ?_)
    refine wpAny_newObj_type ?_ (by size_fits)
    simp only [raiseNew]
    refine wpAny_bind (wpAny_bind (wpAny_handled ?_))
    first | rw [show A.in1.handled = none from hh] | rw [hh]
    refine wpAny_throw ?_
    refine wpAny_bind (wpAny_isInstance (T := "StopIteration") (b := true) ⟨_, Heap.get?_push_size _ rfl, rfl⟩ isSubtype_stop ?_)
    exact wpAny_pure (h _ fun b o hb => Heap.get?_push_of_some _ (Heap.get?_push_of_some _ hb))
  | susp v gd l k c' p' fs =>
    obtain ⟨hq, h⟩ := he
    exact ⟨hq, wpAny_pure ⟨v, rfl, wpAny_pure (hY v gd l k c' p' fs s₁ hq h)⟩⟩
end

/-! ### the consumer -/
/-- what path takes -/
def POk (code size many : Int) : Prop := 0 ≤ code ∧ code < 4294967296 ∧ size ∈ ([8, 16, 32, 64, 128, 256, 512, 1024, 2048, 4096] : List Int) ∧ 0 ≤ many ∧ many < 2 ^ 62
/-- path, called -/
def PathDef (P : Program) (w : World) (K : PySem.W.Frag) (mg : Str → Option Value) (base : Heap) (k : Nat) (f : Addr) (fd : FuncData) : Prop :=
  ∀ {code size many : Int}, POk code size many → ∀ {A : Around} {outer : List Env} {s : Shared} {H : Hp} {args : Args} {us : List Value}, Room k A → Env0 P w K mg base A outer s H → BindsTo s fd args (pP.zip us) → Vals [.int code, .int size, .int many] us →
    codeAny (model P w) A (.call (.ref f) args) (fun r s' => match r with | .ok (.ret u) => ∃ a g c env, u = .ref a ∧ PMade P w k outer H s many.toNat size code a g c env s' | _ => False) s
section
variable {X : Cx} {pins : List (Addr × Obj)} {σ : L2.St} {H : Hp} {s : Shared}
/-- with other generators -/
theorem Inv.withG (I : Inv X pins σ H s) {G : Array GenState} (h : AllBare G) : Inv X pins σ H (Fk.gw s G) := ⟨I.ok, I.os, h, I.base, I.loc, I.cell, I.free, I.freeC, I.pin, I.hok, I.len⟩
/-- where the generator at a stands, i slots out, asleep -/
structure Asleep (X : Cx) (B : Around) (env : Env) (a : Addr) (g : Nat) (N : Nat) (size code : Int) (low : Nat) (i : Nat) (it : Addr) (H : Hp) (s : Shared) : Prop where
  lowIt : low ≤ it
  gen : s.heap.IsGen a g
  st : LSy env it N size code (i - 1) s.heap
  nT : ∀ b ∈ [a, env.locals, it], H b = none
  at_ : ∃ k l c p fs cl, s.gens[g]? = some (.suspended k l c p fs cl) ∧ cl = false ∧ ∀ s'', Slp env it s s'' → Seg (model X.prog X.w) B (RP (fun _ _ => True) env.locals it N) (YP (fun _ _ => True) env it N size code) (N - i) s'' c (k (.send .none)) fs s''
/-- at the loop's head, i slots out -/
inductive Head (X : Cx) (B : Around) (s0 : Shared) (σ0 : L2.St) (H0 : Hp) (env : Env) (a : Addr) (g : Nat) (N : Nat) (size code : Int) (low : Nat) : Nat → L2.St → Hp → Shared → Prop
  | begin : Head X B s0 σ0 H0 env a g N size code low 0 σ0 H0 s0
  | amid {i : Nat} {it : Addr} {σ : L2.St} {H : Hp} {s : Shared} : 0 < i → Asleep X B env a g N size code low i it H s → Head X B s0 σ0 H0 env a g N size code low i σ H s
/-- the slots, as they come: Pv i holds ahead of the turn i -/
def tForP (i : Nat) (ta : TA) (tb : TS) : TS := fun D σ H => ta σ H fun vs H1 => ∃ code size many : Int, vs = [.int code, .int size, .int many] ∧ POk code size many ∧ ∃ Pv : Nat → L2.St → Hp → Prop, Pv 0 σ H1 ∧
  (∀ n σ' H', n < many.toNat → Pv n σ' H' → tb { D with nx := Pv (n + 1), ct := Pv (n + 1), bk := D.nx } (σ'.set i (some (.int (sl size code n)))) H') ∧ ∀ σ' H', Pv many.toNat σ' H' → D.nx σ' H'

/-- the generator's own things have turned -/
theorem inv_mv {L it : Addr} {s' : Shared} (I : Inv X pins σ H s) (m : Mv L it s s') (f1 : FpOk X pins H L) (f2 : FpOk X pins H it) : Inv X pins σ H s' := by
  obtain ⟨h', tk, rfl, k⟩ := m
  obtain ⟨a0, a1, a2, a3, a4, a5⟩ := f1
  obtain ⟨b0, b1, b2, b3, b4, b5⟩ := f2
  have ne : ∀ b, b ∉ [L, it] → b ≠ L ∧ b ≠ it := fun b hb => ⟨fun z => hb (by rw [z]; simp), fun z => hb (by rw [z]; simp)⟩
  have nt : ∀ b u, H b = some u → b ≠ L ∧ b ≠ it := fun b u e => ⟨ne_of_none e a0, ne_of_none e b0⟩
  refine I.step (g' := s.gens) (d' := s.drawn) (ch := [L, it]) (fun b hb => ?_) (fun b o _ _ hc e _ => k b o (ne b hc).1 (ne b hc).2 e) (fun b o _ _ hc e _ => ⟨o.slots, k b o (ne b hc).1 (ne b hc).2 e⟩) (fun _ _ _ _ n => n)
    (fun b o hc e => ⟨o, k b o (ne b hc).1 (ne b hc).2 e⟩) (fun _ _ e => e) (fun _ _ _ e => e) (fun b ps e => ⟨#[], by rw [e]; simp⟩) (fun m hm => ?_) (fun b u e => ?_) I.bare
  · rcases List.mem_cons.mp hb with e | hb
    · rw [e]; exact ⟨a3, a1, a4, a5⟩
    · rw [List.mem_singleton.mp hb]; exact ⟨b3, b1, b4, b5⟩
  · obtain ⟨o, es, ep, ho, r⟩ := hm
    exact ⟨o, es, ep, k _ o (Ne.symm a1) (Ne.symm b1) ho, r⟩
  · refine (I.hok b u e).stay (fun c v hc q => ?_) (fun _ q => q) fun _ _ q => q
    rcases hc with z | z
    · rw [z] at q ⊢
      exact k b v (nt b u e).1 (nt b u e).2 q
    · exact k c v (nt c _ z).1 (nt c _ z).2 q
theorem turn_body {B : Around} {env : Env} {a g : Nat} {N : Nat} {size code : Int} {low : Nat} {i ix : Nat} {it : Addr} {x : Str} {px : Pos} {body : List Stmt} {tb : TS} {D : Ends} {N' : L2.St → Hp → Prop} {v : V} {u : Value} {E : Value → Shared → Prop}
    (I : Inv X pins σ H s) (hA : Asleep X B env a g N size code low i it H s) (yg : ∀ b ∈ [a, env.locals, it], ∀ H' : Hp, H' b = none → FpOk X pins H' b) (hN : X.N.Nodup) (hi : X.N[ix]? = some x) (hx : Loc X.env.scope x) (hf : X.fn x = true ∨ X.env.scope.names.lookup x = some .local)
    (hbd : PSs X.nox body tb) (rv : RelV v u) (ht : tb { D with nx := N', ct := N', bk := D.nx } (σ.set ix (some v)) H) :
    wpAny (model X.prog X.w) X.A (assign (.Name x px) X.env u) (fun _ s6 => wpAny (model X.prog X.w) X.A (execs body X.env) (fun f s7 => match f with
      | .next | .cont => ∃ σ7 H7, Inv X pins σ7 H7 s7 ∧ N' σ7 H7 ∧ Asleep X B env a g N size code low i it H7 s7
      | .brk => ∃ σ7 H7, Inv X pins σ7 H7 s7 ∧ D.nx σ7 H7
      | .ret u => ∃ v σ7 H7, Inv X pins σ7 H7 s7 ∧ RelV v u ∧ D.rt v H7) E s6) E s := by
  obtain ⟨hlow, hgen, hst, hnT, ⟨k, l, c, p, fs, cl, hgs, hcl, hsl⟩⟩ := hA
  have R := Fk.rel_faked s.gens
  have bF : AllBare (Fk.faked s.gens) := Fk.bare_faked I.bare
  have I5 : Inv X pins σ H (Fk.gw s (Fk.faked s.gens)) := Inv.withG I bF
  obtain ⟨mm, hmm, _⟩ := hst.fm.ns
  have hob : ∀ b ∈ [a, env.locals, it], ∃ o, s.heap.get? b = some o ∧ ∀ v, o.data ≠ .cell v := fun b hb => by
    rcases List.mem_cons.mp hb with e | hb
    · rw [e]
      obtain ⟨o, n1, n2, ho, _, hd, _⟩ := hgen
      exact ⟨o, ho, fun v z => by rw [hd] at z; cases z⟩
    · rcases List.mem_cons.mp hb with e | hb
      · rw [e]
        obtain ⟨o, es, ep, ho, hd, _⟩ := hmm
        exact ⟨o, ho, fun v z => by rw [hd] at z; cases z⟩
      · rw [List.mem_singleton.mp hb]
        exact ⟨_, hst.rg, fun v z => by
          have z' : Data.fields _ = Data.cell v := z
          cases z'⟩
  have Ip : Inv X (pins ++ pinsAt [a, env.locals, it] s.heap) σ H (Fk.gw s (Fk.faked s.gens)) := I5.pinned (fun b hb => yg b hb H (hnT b hb)) hob
  have hbare : ∀ i x, Fk.sleepers s.gens i = some x → x.bare = true := Fk.sleepers_bare I.bare
  -- over the replaced ones
  have h1 : wpAny (model X.prog X.w) X.A (assign (.Name x px) X.env u) (fun _ s6 => wpAny (model X.prog X.w) X.A (execs body X.env) (SP X.nox (pins ++ pinsAt [a, env.locals, it] s.heap) { D with nx := N', ct := N', bk := D.nx }) (fun _ _ => False) s6) (fun _ _ => False) (Fk.gw s (Fk.faked s.gens)) := by
    refine wpAny_assign_Name (store_ok Ip hN hi hx rv (fun s6 I6 => ?_) hf)
    exact hbd.run _ s6 _ H _ (I6.wish _) ht
  have h2 := Fk.wpAny_fk (G := s.gens) R h1
  refine wpAny_mono h2 (fun _ s6 h6 => ?_) fun _ _ ⟨_, _, z⟩ => z.elim
  obtain ⟨G0, R0, h6⟩ := h6
  have h7 := Fk.wpAny_fk (s := Fk.gw s6 G0) (G := s6.gens) R0 h6
  refine wpAny_mono h7 (fun f s7 q7 => ?_) fun _ _ ⟨_, _, z⟩ => z.elim
  obtain ⟨G1, R1, q7⟩ := q7
  have real : ∀ {σ7 : L2.St} {H7 : Hp}, Inv X.nox (pins ++ pinsAt [a, env.locals, it] s.heap) σ7 H7 (Fk.gw s7 G1) → Inv X (pins ++ pinsAt [a, env.locals, it] s.heap) σ7 H7 s7 := fun {σ7 H7} J => by
    have b7 : AllBare s7.gens := Fk.bare_real R1 hbare J.bare
    exact Inv.withG (s := Fk.gw s7 G1) J.unwish b7
  have asl : ∀ {σ7 : L2.St} {H7 : Hp}, Inv X (pins ++ pinsAt [a, env.locals, it] s.heap) σ7 H7 s7 → Asleep X B env a g N size code low i it H7 s7 := fun {σ7 H7} J => by
    have kept : ∀ b ∈ [a, env.locals, it], ∀ o, s.heap.get? b = some o → s7.heap.get? b = some o ∧ H7 b = none := fun b hb o e => by
      have := J.pin (b, o) (List.mem_append_right _ (List.mem_append_right _ (mem_pinsAt hb e)))
      exact ⟨this.1, this.2.1⟩
    have slp : Slp env it s s7 := fun b o hb e => by
      rcases hb with e1 | e1 | e1
      · exact (kept b (by rw [e1]; simp) o e).1
      · exact (kept b (by rw [e1]; simp) o e).1
      · obtain ⟨og, es, ep, ho, _⟩ := I.mod.glob
        have z1 := I.bk _ _ ho
        have z2 := J.bk _ _ ho
        rw [e1] at e ⊢
        rw [z1] at e
        cases e
        exact z2
    refine ⟨hlow, ?_, hst.keeps slp, fun b hb => ?_, k, l, c, p, fs, cl, ?_, hcl, fun s'' z => hsl s'' fun b o hb e => z b o hb (slp b o hb e)⟩
    · obtain ⟨o, n1, n2, ho, z⟩ := hgen
      exact ⟨o, n1, n2, (kept a (by simp) o ho).1, z⟩
    · obtain ⟨o, ho, _⟩ := hob b hb
      exact (kept b hb o ho).2
    · exact (R1.fake g _ (Fk.sleepers_at hgs rfl)).2.2
  cases f with
  | next => obtain ⟨σ7, H7, J, n7⟩ := q7; exact ⟨σ7, H7, (real J).unpinned, n7, asl (real J)⟩
  | cont => obtain ⟨σ7, H7, J, n7⟩ := q7; exact ⟨σ7, H7, (real J).unpinned, n7, asl (real J)⟩
  | brk => obtain ⟨σ7, H7, J, n7⟩ := q7; exact ⟨σ7, H7, (real J).unpinned, n7⟩
  | ret u => obtain ⟨v7, σ7, H7, J, r7, n7⟩ := q7; exact ⟨v7, σ7, H7, (real J).unpinned, r7, n7⟩

/-- what a turn of the loop comes to -/
def TurnP (X : Cx) (pins : List (Addr × Obj)) (env : Env) (a g N : Nat) (size code : Int) (low : Nat) (it : Addr) (i : Nat) (D : Ends) (N' : L2.St → Hp → Prop) (f : Flow) (s7 : Shared) : Prop := match f with
  | .next | .cont => ∃ σ7 H7, Inv X pins σ7 H7 s7 ∧ N' σ7 H7 ∧ Asleep X X.A.in1 env a g N size code low i it H7 s7
  | .brk => ∃ σ7 H7, Inv X pins σ7 H7 s7 ∧ D.nx σ7 H7
  | .ret u => ∃ v σ7 H7, Inv X pins σ7 H7 s7 ∧ RelV v u ∧ D.rt v H7
theorem ps_forP {f : Addr} {fd : FuncData} {k ix : Nat} {nmp x : Str} {px p pos' pos : Pos} {e : Expr} {es : List Expr} {ta : TA} {body : List Stmt} {tb : TS}
    (F : PathDef X.prog X.w X.K X.mg X.base k f fd) (hr : Room (k + 1) X.A) (hg : Gl X nmp) (hm : X.mg nmp = some (.ref f)) (hk : PySem.W.keepIn X.K (.ref f) = true) (hb : Binds X.K fd pP []) (ha : PA X (e :: es) ta) (hp : PassesOwn (model X.prog X.w) X.A X.env X.xe) (hc : X.calm = true)
    (hN : X.N.Nodup) (hi : X.N[ix]? = some x) (hx : Loc X.env.scope x) (hbd : PSs X.nox body tb) (hf : X.fn x = true ∨ X.env.scope.names.lookup x = some .local := by first | exact .inl rfl | exact .inr rfl | assumption)
    (hdb : (nmp == ("__debug__" : Str)) = false := by decide) (he : starEach (e :: es) X.env = (false, eval e X.env) :: starEach es X.env := by rfl) (hpl : (backTo pos' (starEach es X.env)).any (·.1) = false := by rfl)
    (hs : ∀ v, foldedSetIterable (.Call (.Name nmp p) (e :: es) [] pos') X.env v = pure v := by intro _; rfl) :
    PS X (.For (.Name x px) (.Call (.Name nmp p) (e :: es) [] pos') body [] pos) (tForP ix ta tb) := by
  refine ⟨fun pins s σ H D I h => ?_⟩
  refine wpAny_For ?_ hs
  refine wpAny_Call_Name_kw (ld_glob I hg hm ?_ hdb)
  refine PySem.W.callWith_K (h₀ := X.base) I.ok.mod.kin hk (thn (ha.run pos' pins s σ H _ I h) fun us s1 ⟨vs, H1, I1, r1, q1⟩ => ⟨I1.kIn, ?_⟩) he hpl
  obtain ⟨code, size, many, rfl, ok, Pv, h0, hturn, hdone⟩ := q1
  have hl2 : us.length = 3 := r1.length.symm
  have hbt : BindsTo s1 fd ⟨us, []⟩ (pP.zip us) := by
    have := hb s1 us I1.kIn (by rw [List.append_nil]; exact hl2)
    rw [List.append_nil] at this
    exact this
  refine wpAny_call (codeAny_mono (F ok (hr.mono (Nat.le_succ _)) I1.env0 hbt r1) fun r s2 hq => ?_)
  cases r with
  | error e => exact False.elim hq
  | ok fl =>
  cases fl with
  | next => exact False.elim hq
  | brk => exact False.elim hq
  | cont => exact False.elim hq
  | ret u =>
  obtain ⟨a, g, c, env, rfl, m⟩ := hq
  refine wpAny_pyIter_gen m.gen ?_
  have hh : X.A.handled = none := I.ok.hd hc
  have hsz : s1.heap.objs.size ≤ s2.heap.objs.size := by
    have h1 : @LE.le Nat _ s1.heap.objs.size env.locals := m.young
    have h2 : @LT.lt Nat _ env.locals a := m.La
    have h3 : @Eq Nat (a + 1) s2.heap.objs.size := m.aE
    omega
  have I2 : Inv X pins σ H1 s2 := I1.call' (ch := []) m.os (Un.kept m.keep) (I1.hok.kept m.keep) m.bare fun b z => by simp at z
  have hgl : g < s2.gens.size := (Array.getElem?_eq_some_iff.mp m.fresh).1
  have yg : ∀ it : Addr, a + 1 ≤ it → ∀ b ∈ [a, env.locals, it], ∀ H' : Hp, H' b = none → FpOk X pins H' b := fun it hit b hb' H' hn => by
    have h1 : @LE.le Nat _ s1.heap.objs.size env.locals := m.young
    have h2 : @LT.lt Nat _ env.locals a := m.La
    have h3 : @LE.le Nat _ (a + 1) it := hit
    refine I1.fpOk ?_ hn
    show @LE.le Nat _ s1.heap.objs.size b
    rcases List.mem_cons.mp hb' with z | z
    · have z : @Eq Nat b a := z
      omega
    · rcases List.mem_cons.mp z with z | z
      · have z : @Eq Nat b env.locals := z
        omega
      · have z : @Eq Nat b it := List.mem_singleton.mp z
        omega
  -- a slot is out: the turn
  have go : ∀ (i : Nat) (it : Addr) (σ5 : L2.St) (H5 : Hp) (s5 : Shared) (t : Tok), i < many.toNat → a + 1 ≤ it → Inv X pins σ5 H5 s5 → Pv i σ5 H5 → Asleep X X.A.in1 env a g many.toNat size code (a + 1) (i + 1) it H5 s5 →
      wpAny (model X.prog X.w) X.A (assign (.Name x px) X.env (.int (sl size code i) t)) (fun _ s6 => wpAny (model X.prog X.w) X.A (execs body X.env) (TurnP X pins env a g many.toNat size code (a + 1) it (i + 1) D (Pv (i + 1))) (fun _ _ => False) s6) (fun _ _ => False) s5 := fun i it σ5 H5 s5 t hlt hit I5 hP hA => by
    refine wpAny_mono (turn_body I5 hA (yg it hit) hN hi hx hf hbd (v := .int (sl size code i)) ⟨t, rfl⟩ (hturn i σ5 H5 hlt hP)) (fun _ s6 h6 => wpAny_mono h6 (fun f s7 h7 => ?_) fun _ _ z => z) fun _ _ z => z
    cases f <;> exact h7
  refine codeAny_forLoop_any (fun n s' => ∃ i σ' H', i ≤ many.toNat ∧ n = many.toNat - i ∧ Inv X pins σ' H' s' ∧ Pv i σ' H' ∧ Head X X.A.in1 s2 σ H1 env a g many.toNat size code (a + 1) i σ' H' s') ?_ many.toNat ⟨0, σ, H1, Nat.zero_le _, by omega, I2, h0, .begin⟩
  rintro n s3 ⟨i, σ3, H3, hle, rfl, I3, hP, hd⟩
  -- behind the turn's body
  have fin : ∀ {it : Addr} {f : Flow} {s7 : Shared}, i < many.toNat → TurnP X pins env a g many.toNat size code (a + 1) it (i + 1) D (Pv (i + 1)) f s7 →
      (match f with
        | .next | .cont => ∃ m, m < many.toNat - i ∧ ∃ i σ' H', i ≤ many.toNat ∧ m = many.toNat - i ∧ Inv X pins σ' H' s7 ∧ Pv i σ' H' ∧ Head X X.A.in1 s2 σ H1 env a g many.toNat size code (a + 1) i σ' H' s7
        | .brk => SP X pins D .next s7
        | .ret v => SP X pins D (.ret v) s7) := fun {it f s7} hlt q => by
    cases f with
    | next => obtain ⟨σ7, H7, J, n7, z⟩ := q; exact ⟨many.toNat - (i + 1), by omega, i + 1, σ7, H7, by omega, rfl, J, n7, .amid (Nat.succ_pos _) z⟩
    | cont => obtain ⟨σ7, H7, J, n7, z⟩ := q; exact ⟨many.toNat - (i + 1), by omega, i + 1, σ7, H7, by omega, rfl, J, n7, .amid (Nat.succ_pos _) z⟩
    | brk => obtain ⟨σ7, H7, J, n7⟩ := q; exact ⟨σ7, H7, J, n7⟩
    | ret u => obtain ⟨v7, σ7, H7, J, r7, n7⟩ := q; exact ⟨v7, σ7, H7, J, r7, n7⟩
  -- the turn, from where the slot is out
  have turn : ∀ {it : Addr} {s5 : Shared} {t : Tok} {σ5 : L2.St} {H5 : Hp} {Z : Flow → Shared → Prop} {E : Value → Shared → Prop}, i < many.toNat → a + 1 ≤ it → Inv X pins σ5 H5 s5 → Pv i σ5 H5 → Asleep X X.A.in1 env a g many.toNat size code (a + 1) (i + 1) it H5 s5 →
      (∀ f s7, TurnP X pins env a g many.toNat size code (a + 1) it (i + 1) D (Pv (i + 1)) f s7 → Z f s7) →
      wpAny (model X.prog X.w) X.A (letOwnedTupleGo (.Name x px) (.ref a) (.int (sl size code i) t)) (fun _ s₁' => wpAny (model X.prog X.w) X.A (assign (.Name x px) X.env (.int (sl size code i) t)) (fun _ s₂ => wpAny (model X.prog X.w) X.A (execs body X.env) Z E s₂) E s₁') E s5 := fun {it s5 t σ5 H5 Z E} hlt hit I5 hP5 hA hZ => by
    refine wpAny_pure ?_
    exact wpAny_mono (go i it σ5 H5 s5 t hlt hit I5 hP5 hA) (fun _ s6 h6 => wpAny_mono h6 (fun f s7 h7 => hZ f s7 h7) fun _ _ z => z.elim) fun _ _ z => z.elim
  cases hd with
  | begin =>
    refine wpAny_gsz (n := g + 1) hgl (next_first hh I2.nolimit hr.depth m.gen m.fresh (m.wake X.A.in1 (s2.setGen g .running) [] hr.in1 I2.ok.frames (fun _ _ e => e) m.os (allBare_setGen m.bare rfl) (fun p hp => by simp at hp)) fun e s₁ he => ?_)
    cases e with
    | ret r =>
      obtain ⟨rfl, hN0, ⟨j1, j2, j3, j4, j5, j6, _⟩⟩ := he
      refine .inl ⟨rfl, fun h' hk' _ => ?_⟩
      have I4 : Inv X pins σ H1 s₁ := I1.call' (ch := []) j1 j3 j4 j2 fun b z => by simp at z
      have I5 : Inv X pins σ H1 { s₁.setGen g .finished with heap := h' } := Inv.withG (I4.kept (t' := s₁.toks) hk') (allBare_setGen j2 rfl)
      refine wpAny_execs_nil ?_
      rw [hN0] at hdone
      exact ⟨σ, H1, I5, hdone σ H1 hP⟩
    | susp v gd l k₁ c₁ p₁ fs₁ =>
      obtain ⟨hq, hN0, ⟨t, rfl⟩, ⟨j1, j2, j3, j4, j5, j6, _⟩, it, hit', hst, hsl⟩ := he
      have hit : a + 1 ≤ it := Nat.succ_le_of_lt (hit' a List.mem_cons_self)
      refine .inr ⟨_, gd, l, k₁, c₁, p₁, fs₁, rfl, hq, fun hsz' => ?_⟩
      have I4 : Inv X pins σ H1 s₁ := I1.call' (ch := []) j1 j3 j4 j2 fun b z => by simp at z
      have hcl : (gd || fs₁.any Frame.guarded) = false := by
        have : (!(gd || fs₁.any Frame.guarded)) = true := hq
        simpa using this
      have hb' : (End.susp (Value.int (sl size code 0) t) gd l k₁ c₁ p₁ fs₁).genState.bare = true := End.bare_of_quiet hq
      have I5 : Inv X pins σ H1 (s₁.setGen g (End.susp (Value.int (sl size code 0) t) gd l k₁ c₁ p₁ fs₁).genState) := Inv.withG I4 (allBare_setGen j2 hb')
      have hgs1 : g < s₁.gens.size := by
        have q : (s₁.setGen g (End.susp (Value.int (sl size code 0) t) gd l k₁ c₁ p₁ fs₁).genState).gens.size = s₁.gens.size := setGen_size _ _ _
        have hsz'' : g + 1 ≤ (s₁.setGen g (End.susp (Value.int (sl size code 0) t) gd l k₁ c₁ p₁ fs₁).genState).gens.size := hsz'
        omega
      refine turn hN0 hit I5 hP ⟨hit, j5, hst, fun b hb' => ?_, k₁, l, c₁, p₁, fs₁, _, setGen_at hgs1, hcl, hsl⟩ fun f s7 q => ?_
      · have yy : @LE.le Nat _ s1.heap.objs.size b := by
          have h1 : @LE.le Nat _ s1.heap.objs.size env.locals := m.young
          have h2 : @LT.lt Nat _ env.locals a := m.La
          have h3 : @LE.le Nat _ (a + 1) it := hit
          rcases List.mem_cons.mp hb' with z | z
          · have z : @Eq Nat b a := z
            omega
          · rcases List.mem_cons.mp z with z | z
            · have z : @Eq Nat b env.locals := z
              omega
            · have z : @Eq Nat b it := List.mem_singleton.mp z
              omega
        exact I1.hok.fresh yy
      · have := fin hN0 q
        cases f <;> exact this
  | @amid _ it _ _ _ hpos hA =>
    obtain ⟨hlow, hgen, hst, hnT, ⟨k₁, l₁, c₁, p₁, fs₁, cl₁, hgs, hcl, hsl⟩⟩ := hA
    have hgl3 : g < s3.gens.size := (Array.getElem?_eq_some_iff.mp hgs).1
    have fL : FpOk X pins H3 env.locals := yg it hlow _ (by simp) H3 (hnT _ (by simp))
    have fI : FpOk X pins H3 it := yg it hlow _ (by simp) H3 (hnT _ (by simp))
    have haL : a ≠ env.locals := Nat.ne_of_gt m.La
    have haI : a ≠ it := Nat.ne_of_lt (Nat.lt_of_lt_of_le (Nat.lt_succ_self a) hlow)
    have I3' : Inv X pins σ3 H3 (s3.setGen g .running) := Inv.withG I3 (allBare_setGen I3.bare rfl)
    refine wpAny_gsz (n := g + 1) hgl3 (next_later (n := many.toNat - i) hh I3.nolimit hr.depth hgen hgs (hsl (s3.setGen g .running) fun _ _ _ e => e) (fun r s₁ hR => ?_) fun v gd l k₂ c₂ p₂ fs₂ s₁ hq hY => ?_)
    · obtain ⟨rfl, hn0, hj⟩ := hR
      unfold Jr at hj
      rw [if_neg (by omega)] at hj
      refine ⟨rfl, fun h' hk' _ => ?_⟩
      have I4 : Inv X pins σ3 H3 s₁ := inv_mv I3' hj fL fI
      have I5 : Inv X pins σ3 H3 { s₁.setGen g .finished with heap := h' } := Inv.withG (I4.kept (t' := s₁.toks) hk') (allBare_setGen I4.bare rfl)
      refine wpAny_execs_nil ?_
      have e : i = many.toNat := by omega
      rw [← e] at hdone
      exact ⟨σ3, H3, I5, hdone σ3 H3 hP⟩
    · obtain ⟨i', t, hi', rfl, hj, hy, hkap⟩ := hY
      intro hsz'
      obtain ⟨m', hm'⟩ : ∃ m', many.toNat - i = m' + 1 := by
        cases hz : many.toNat - i with
        | succ m' => exact ⟨m', rfl⟩
        | zero =>
          have := hkap s₁ fun _ _ _ e => e
          rw [hz] at this
          exact False.elim this
      have ei : i' = i := by omega
      subst ei
      have hlt : i' < many.toNat := by omega
      unfold Jr at hj
      rw [if_neg (by omega)] at hj
      have I4 : Inv X pins σ3 H3 s₁ := inv_mv I3' hj fL fI
      have hcl2 : (gd || fs₂.any Frame.guarded) = false := by
        have : (!(gd || fs₂.any Frame.guarded)) = true := hq
        simpa using this
      have hb' : (End.susp (Value.int (sl size code i') t) gd l k₂ c₂ p₂ fs₂).genState.bare = true := End.bare_of_quiet hq
      have I5 : Inv X pins σ3 H3 (s₁.setGen g (End.susp (Value.int (sl size code i') t) gd l k₂ c₂ p₂ fs₂).genState) := Inv.withG I4 (allBare_setGen I4.bare hb')
      have hgs1 : g < s₁.gens.size := by
        have q : (s₁.setGen g (End.susp (Value.int (sl size code i') t) gd l k₂ c₂ p₂ fs₂).genState).gens.size = s₁.gens.size := setGen_size _ _ _
        have hsz'' : g + 1 ≤ (s₁.setGen g (End.susp (Value.int (sl size code i') t) gd l k₂ c₂ p₂ fs₂).genState).gens.size := hsz'
        omega
      have hgen1 : s₁.heap.IsGen a g := by
        obtain ⟨h', tk, rfl, k'⟩ := hj
        obtain ⟨o, n1, n2, ho, z⟩ := hgen
        exact ⟨o, n1, n2, k' _ o haL haI ho, z⟩
      refine turn hlt hlow I5 hP ⟨hlow, hgen1, hy, hnT, k₂, l, c₂, p₂, fs₂, _, setGen_at hgs1, hcl2, fun s'' z => ?_⟩ fun f s7 q => ?_
      · have := hkap s'' z
        rw [hm'] at this
        rw [show many.toNat - (i' + 1) = m' by omega]
        exact this
      · have := fin hlt q
        cases f <;> exact this
end
end Pth
set_option Elab.async false
set_option linter.all false
set_option maxRecDepth 100000
set_option maxHeartbeats 1000000
/-! Pl: list(path(..)) -/
namespace Pth
open PySem PySem.Spec PyProof.Rows L2 GenW
section
variable {X : Cx} {pins : List (Addr × Obj)} {σ : L2.St} {H : Hp} {s : Shared}
/-- an object of ours is tracked from now on -/
theorem inv_track {S : Addr} {o : HO} (I : Inv X pins σ H s) (f : FpOk X pins H S) (hs : ∃ u, s.heap.get? S = some u) (new : ObjOk X.prog X.w (upd H S o) s.heap S o) : Inv X pins σ (upd H S o) s := by
  obtain ⟨a0, a1, a2, a3, a4, a5⟩ := f
  have ne : ∀ b, b ∉ [S] → b ≠ S := fun b hb z => hb (by rw [z]; simp)
  have nt : ∀ b u, H b = some u → b ≠ S := fun b u e => ne_of_none e a0
  obtain ⟨hp, g, d, t, os⟩ := s
  refine I.step (g' := g) (d' := d) (t' := t) (h' := hp) (ch := [S]) (fun b hb => ?_) (fun b o _ _ _ e _ => e) (fun b o _ _ _ e _ => ⟨o.slots, e⟩) (fun b _ hc _ n => by rw [upd_ne (ne b hc)]; exact n)
    (fun b o _ e => ⟨o, e⟩) (fun b _ e => by rw [upd_ne (nt b _ e)]; exact e) (fun b _ _ e => by rw [upd_ne (nt b _ e)]; exact e) (fun b ps e => ⟨#[], by rw [upd_ne (nt b _ e), e]; simp⟩) (fun m hm => hm) (fun b u e => ?_) I.bare
  · rw [List.mem_singleton.mp hb]; exact ⟨a3, a1, a4, a5⟩
  · by_cases hb : b = S
    · rw [hb, upd_same] at e
      cases e
      rw [hb]
      exact new
    · rw [upd_ne hb] at e
      exact (I.hok b u e).stay (fun _ _ _ q => q) (fun c q => by rw [upd_ne (nt c _ q)]; exact q) fun c xs q => by rw [upd_ne (nt c _ q)]; exact q
/-- the slots, a list -/
def slots (size code many : Int) : List V := (List.range many.toNat).map fun i => V.int (sl size code i)
def tListP (ta : TA) : TE := fun σ H Q => ta σ H fun vs H1 => ∃ code size many : Int, vs = [.int code, .int size, .int many] ∧ POk code size many ∧ many.toNat ≤ sizeLine ∧ ∀ p, H1 p = none → Q (.ref p) (upd H1 p (.lst (slots size code many)))
/-- the list stands at S: i slots are in it -/
def InList (S : Addr) (size code : Int) (i : Nat) (s : Shared) : Prop := ∃ (acc : Array Value) (c : Nat), Vals ((List.range i).map fun i => V.int (sl size code i)) acc.toList ∧ s.heap.get? S = some (lstObj acc c)
theorem vals_snoc {size code : Int} {i : Nat} {acc : Array Value} {t : Tok} (h : Vals ((List.range i).map fun i => V.int (sl size code i)) acc.toList) : Vals ((List.range (i + 1)).map fun i => V.int (sl size code i)) (acc.push (.int (sl size code i) t)).toList := by
  rw [List.range_succ, List.map_append, Array.toList_push]
  exact h.append (.cons ⟨t, rfl⟩ .nil)
/-- the loop that fills the list, i slots being in it -/
theorem drainP {A : Around} {env : Env} {a g : Nat} {size code many : Int} {S it : Addr} {R : Result → Shared → Prop} {res : Value} (hh : A.handled = none) (hd : A.depth < recursionLimit) (hle : many.toNat ≤ sizeLine) (hL : env.locals ≠ S) (hI : it ≠ S) (haS : a ≠ S) (haL : a ≠ env.locals) (haI : a ≠ it) (hGS : mainGlobals ≠ S)
    (fS : FpOk X pins H S) (fL : FpOk X pins H env.locals) (fI : FpOk X pins H it)
    (hend : ∀ s', Inv X pins σ H s' → InList S size code many.toNat s' → R (.ok (.ret res)) s') :
    ∀ (r i : Nat) (s : Shared), 0 < i → i + r = many.toNat → Inv X pins σ H s → InList S size code i s → Asleep X A.in1.in1 env a g many.toNat size code 0 i it H s →
      codeAny (model X.prog X.w) A (.builtin "list.extend.loop" ⟨[.ref S, .ref a, res], []⟩) R s := by
  intro r
  induction r with
  | zero =>
    intro i s hpos hir I hin hA
    obtain ⟨hlow, hgen, hst, hnT, ⟨k₁, l₁, c₁, p₁, fs₁, cl₁, hgs, hcl, hsl⟩⟩ := hA
    have I' : Inv X pins σ H (s.setGen g .running) := Inv.withG I (allBare_setGen I.bare rfl)
    refine codeAny_builtin F.entry_extend_loop ?_
    rw [Around.under_plainId F.plain_extend_loop _]
    show wpAny _ A.in1 (pyNext (.ref a) >>= _) _ _ s
    refine wpAny_bind (next_later (A := A.in1) (n := many.toNat - i) hh I.nolimit hd hgen hgs (hsl (s.setGen g .running) fun _ _ _ e => e) (fun r s₁ hR => ?_) fun v gd l k₂ c₂ p₂ fs₂ s₁ hq hY => ?_)
    · obtain ⟨rfl, hn0, hj⟩ := hR
      unfold Jr at hj
      rw [if_neg (by omega)] at hj
      refine ⟨rfl, fun h' hk' => ?_⟩
      have I4 : Inv X pins σ H s₁ := inv_mv I' hj fL fI
      have I5 : Inv X pins σ H { s₁.setGen g .finished with heap := h' } := Inv.withG (I4.kept (t' := s₁.toks) hk') (allBare_setGen I4.bare rfl)
      refine wpAny_pure (hend _ I5 ?_)
      obtain ⟨acc, c, hv, hS⟩ := hin
      obtain ⟨h2, tk, rfl, k2⟩ := hj
      refine ⟨acc, c, ?_, hk' _ _ (k2 _ _ (Ne.symm hL) (Ne.symm hI) hS)⟩
      have e : many.toNat = i := by omega
      rw [e]; exact hv
    · obtain ⟨i', t, hi', rfl, hj, hy, hkap⟩ := hY
      have := hkap s₁ fun _ _ _ e => e
      rw [show many.toNat - i = 0 by omega] at this
      exact False.elim this
  | succ r ih =>
    intro i s hpos hir I hin hA
    obtain ⟨hlow, hgen, hst, hnT, ⟨k₁, l₁, c₁, p₁, fs₁, cl₁, hgs, hcl, hsl⟩⟩ := hA
    have hgl : g < s.gens.size := (Array.getElem?_eq_some_iff.mp hgs).1
    have I' : Inv X pins σ H (s.setGen g .running) := Inv.withG I (allBare_setGen I.bare rfl)
    refine codeAny_builtin F.entry_extend_loop ?_
    rw [Around.under_plainId F.plain_extend_loop _]
    show wpAny _ A.in1 (pyNext (.ref a) >>= _) _ _ s
    refine wpAny_bind (wpAny_gsz (n := g + 1) hgl (next_later (A := A.in1) (n := many.toNat - i) hh I.nolimit hd hgen hgs (hsl (s.setGen g .running) fun _ _ _ e => e) (fun r s₁ hR => ?_) fun v gd l k₂ c₂ p₂ fs₂ s₁ hq hY => ?_))
    · obtain ⟨rfl, hn0, hj⟩ := hR
      omega
    · obtain ⟨i', t, hi', rfl, hj, hy, hkap⟩ := hY
      intro hsz'
      have ei : i' = i := by omega
      subst ei
      unfold Jr at hj
      rw [if_neg (by omega)] at hj
      have I4 : Inv X pins σ H s₁ := inv_mv I' hj fL fI
      have hcl2 : (gd || fs₂.any Frame.guarded) = false := by
        have : (!(gd || fs₂.any Frame.guarded)) = true := hq
        simpa using this
      have hb' : (End.susp (Value.int (sl size code i') t) gd l k₂ c₂ p₂ fs₂).genState.bare = true := End.bare_of_quiet hq
      have I5 : Inv X pins σ H (s₁.setGen g (End.susp (Value.int (sl size code i') t) gd l k₂ c₂ p₂ fs₂).genState) := Inv.withG I4 (allBare_setGen I4.bare hb')
      have hgs1 : g < s₁.gens.size := by
        have q : (s₁.setGen g (End.susp (Value.int (sl size code i') t) gd l k₂ c₂ p₂ fs₂).genState).gens.size = s₁.gens.size := setGen_size _ _ _
        have hsz'' : g + 1 ≤ (s₁.setGen g (End.susp (Value.int (sl size code i') t) gd l k₂ c₂ p₂ fs₂).genState).gens.size := hsz'
        omega
      obtain ⟨h2, tk, rfl, k2⟩ := hj
      obtain ⟨acc, c, hv, hS⟩ := hin
      have hS1 : h2.get? S = some (lstObj acc c) := k2 _ _ (Ne.symm hL) (Ne.symm hI) hS
      have hal : acc.size = i' := by
        have := hv.length
        simpa using this.symm
      show wpAny _ A.in1 (updateSeq S (·.push (.int (sl size code i') t)) >>= _) _ _ _
      refine wpAny_bind ?_
      refine wpAny_updateSeq hS1 rfl (wpAny_pure ⟨plainId_quiet F.plain_extend_loop _, ?_⟩) (by omega) (by show (acc.push _).size ≤ sizeLine + 1; rw [Array.size_push]; omega)
      have keep3 : ∀ b o, b ≠ S → h2.get? b = some o → (h2.update S (Obj.mapSeq (·.push (.int (sl size code i') t)))).get? b = some o := fun b o hbS e => (Heap.get?_update_other _ _ (Ne.symm hbS)).trans e
      obtain ⟨s0, s1', s2, s3, s4, s5⟩ := fS
      refine ih (i' + 1) _ (by omega) (by omega) (I5.turned (it := S) (t' := tk) keep3 s0 s1' s3 s4 s5) ⟨_, _, vals_snoc hv, Heap.get?_update_self _ hS1 rfl⟩ ⟨Nat.zero_le _, ?_, ?_, hnT, k₂, l, c₂, p₂, fs₂, _, setGen_at hgs1, hcl2, fun s'' z => ?_⟩
      · obtain ⟨o, n1, n2, ho, z⟩ := hgen
        exact ⟨o, n1, n2, keep3 _ o haS (k2 _ o haL haI ho), z⟩
      · refine hy.keeps (s' := { heap := h2.update S (Obj.mapSeq (·.push (.int (sl size code i') t))), gens := s.gens, drawn := s.drawn, toks := tk, os := s.os }) fun b o hb e => ?_
        refine keep3 b o ?_ e
        rcases hb with e | e | e <;> rw [e] <;> first | exact hL | exact hI | exact hGS
      · have := hkap s'' fun b o hb e => z b o hb ?_
        · rw [show many.toNat - i' = r + 1 by omega] at this
          rw [show many.toNat - (i' + 1) = r by omega]
          exact this
        · refine keep3 b o ?_ e
          rcases hb with e | e | e <;> rw [e] <;> first | exact hL | exact hI | exact hGS

theorem drain0 {A : Around} {env : Env} {k a g : Nat} {c : Code} {size code many : Int} {S : Addr} {R : Result → Shared → Prop} {res : Value} {H1 : Hp} {s1 s2 : Shared} {cc : Nat} (hh : A.handled = none) (hd : A.depth < recursionLimit) (hle : many.toNat ≤ sizeLine)
    (I1 : Inv X pins σ H1 s1) (m : PMade X.prog X.w k X.stack H1 s1 many.toNat size code a g c env s2) (hr : Room k A.in1.in1) (hfr : A.in1.in1.frames = some X.stack) (hk : ∀ b o, s2.heap.get? b = some o → s.heap.get? b = some o) (hg : s.gens = s2.gens) (ho : s.os = s2.os)
    (hS : s.heap.get? S = some (lstObj #[] cc)) (haS : a < S)
    (hend : ∀ s', Inv X pins σ H1 s' → InList S size code many.toNat s' → R (.ok (.ret res)) s') :
    codeAny (model X.prog X.w) A (.builtin "list.extend.loop" ⟨[.ref S, .ref a, res], []⟩) R s := by
  have y1 : @LE.le Nat _ s1.heap.objs.size env.locals := m.young
  have y2 : @LT.lt Nat _ env.locals a := m.La
  have y3 : @LT.lt Nat _ a S := haS
  have yng : ∀ b : Addr, @LE.le Nat _ env.locals b → ∀ {H' : Hp}, H' b = none → FpOk X pins H' b := fun b hb H' hn => I1.fpOk (show @LE.le Nat _ s1.heap.objs.size b by omega) hn
  have ynn : ∀ b : Addr, @LE.le Nat _ env.locals b → H1 b = none := fun b hb => I1.hok.fresh (show @LE.le Nat _ s1.heap.objs.size b by omega)
  have hmG : @LT.lt Nat _ mainGlobals S := by
    obtain ⟨o, es, ep, ho, _⟩ := I1.mod.glob
    have := Heap.lt_size (I1.bk _ _ ho)
    have : @LT.lt Nat _ mainGlobals s1.heap.objs.size := this
    omega
  have hL : env.locals ≠ S := Nat.ne_of_lt (show @LT.lt Nat _ env.locals S by omega)
  have hgen : s.heap.IsGen a g := m.gen.keeps hk
  have hlim : s.heap.NoLimit := m.lim.keeps hk
  have hgs : s.gens[g]? = some (.fresh c) := by rw [hg]; exact m.fresh
  have hgl : g < s.gens.size := (Array.getElem?_eq_some_iff.mp hgs).1
  have hbare : AllBare s.gens := by rw [hg]; exact m.bare
  have fS : FpOk X pins H1 S := yng S (by omega) (ynn S (by omega))
  have fL : FpOk X pins H1 env.locals := yng _ (Nat.le_refl _) (ynn _ (Nat.le_refl _))
  refine codeAny_builtin F.entry_extend_loop ?_
  rw [Around.under_plainId F.plain_extend_loop _]
  show wpAny _ A.in1 (pyNext (.ref a) >>= _) _ _ s
  refine wpAny_bind (wpAny_gsz (n := g + 1) hgl (next_first (A := A.in1) hh hlim hd hgen hgs (m.wake A.in1.in1 (s.setGen g .running) [(S, lstObj #[] cc)] hr hfr (fun b o e => hk b o e) (ho.trans m.os) (allBare_setGen hbare rfl) (fun p hp => by
    rw [List.mem_singleton.mp hp]
    exact ⟨hS, haS, fun v z => by cases z⟩)) fun e s₁ he => ?_))
  cases e with
  | ret r =>
    obtain ⟨rfl, hN0, ⟨j1, j2, j3, j4, j5, j6, j7⟩⟩ := he
    refine .inl ⟨rfl, fun h' hk' _ => ?_⟩
    have I4 : Inv X pins σ H1 s₁ := I1.call' (ch := []) j1 j3 j4 j2 fun b z => by simp at z
    have I5 : Inv X pins σ H1 { s₁.setGen g .finished with heap := h' } := Inv.withG (I4.kept (t' := s₁.toks) hk') (allBare_setGen j2 rfl)
    refine wpAny_pure (hend _ I5 ⟨#[], cc, ?_, hk' _ _ (j7 (S, lstObj #[] cc) (List.mem_singleton.mpr rfl))⟩)
    rw [hN0]
    exact .nil
  | susp v gd l k₁ c₁ p₁ fs₁ =>
    obtain ⟨hq, hN0, ⟨t, rfl⟩, ⟨j1, j2, j3, j4, j5, j6, j7⟩, it, hit', hst, hsl⟩ := he
    refine .inr ⟨_, gd, l, k₁, c₁, p₁, fs₁, rfl, hq, fun hsz' => ?_⟩
    have hai : @LT.lt Nat _ a it := hit' a List.mem_cons_self
    have hSi : @LT.lt Nat _ S it := hit' S (by simp)
    have I4 : Inv X pins σ H1 s₁ := I1.call' (ch := []) j1 j3 j4 j2 fun b z => by simp at z
    have hcl2 : (gd || fs₁.any Frame.guarded) = false := by
      have : (!(gd || fs₁.any Frame.guarded)) = true := hq
      simpa using this
    have hb' : (End.susp (Value.int (sl size code 0) t) gd l k₁ c₁ p₁ fs₁).genState.bare = true := End.bare_of_quiet hq
    have I5 : Inv X pins σ H1 (s₁.setGen g (End.susp (Value.int (sl size code 0) t) gd l k₁ c₁ p₁ fs₁).genState) := Inv.withG I4 (allBare_setGen j2 hb')
    have hgs1 : g < s₁.gens.size := by
      have q : (s₁.setGen g (End.susp (Value.int (sl size code 0) t) gd l k₁ c₁ p₁ fs₁).genState).gens.size = s₁.gens.size := setGen_size _ _ _
      have hsz'' : g + 1 ≤ (s₁.setGen g (End.susp (Value.int (sl size code 0) t) gd l k₁ c₁ p₁ fs₁).genState).gens.size := hsz'
      omega
    have fI : FpOk X pins H1 it := yng it (by omega) (ynn it (by omega))
    have hS1 : s₁.heap.get? S = some (lstObj #[] cc) := j7 (S, lstObj #[] cc) (List.mem_singleton.mpr rfl)
    have haS' : a ≠ S := Nat.ne_of_lt y3
    have haL : a ≠ env.locals := Nat.ne_of_gt y2
    have haI : a ≠ it := Nat.ne_of_lt hai
    have hI : it ≠ S := Nat.ne_of_gt hSi
    have hGS : mainGlobals ≠ S := Nat.ne_of_lt hmG
    obtain ⟨hp1, g1, d1, t1, o1⟩ := s₁
    have hS1 : hp1.get? S = some (lstObj #[] cc) := hS1
    show wpAny _ A.in1 (updateSeq S (·.push (.int (sl size code 0) t)) >>= _) _ _ _
    refine wpAny_bind ?_
    refine wpAny_updateSeq hS1 rfl (wpAny_pure ⟨plainId_quiet F.plain_extend_loop _, ?_⟩) (by show (0 : Nat) ≤ sizeLine; exact Nat.zero_le _) (by show (1 : Nat) ≤ sizeLine + 1; omega)
    have keep3 : ∀ b o, b ≠ S → hp1.get? b = some o → (hp1.update S (Obj.mapSeq (·.push (.int (sl size code 0) t)))).get? b = some o := fun b o hbS e => (Heap.get?_update_other _ _ (Ne.symm hbS)).trans e
    obtain ⟨s0', s1', s2', s3', s4', s5'⟩ := id fS
    refine drainP (A := A) hh hd hle hL hI haS' haL haI hGS fS fL fI hend (many.toNat - 1) 1 _ (by omega) (by omega) (I5.turned (it := S) (t' := t1) keep3 s0' s1' s3' s4' s5') ⟨_, _, vals_snoc (i := 0) (acc := #[]) .nil, Heap.get?_update_self _ hS1 rfl⟩ ⟨Nat.zero_le _, ?_, ?_, fun b hb => ?_, k₁, l, c₁, p₁, fs₁, _, setGen_at hgs1, hcl2, fun s'' z => ?_⟩
    · obtain ⟨o, n1, n2, ho, z⟩ := j5
      exact ⟨o, n1, n2, keep3 _ o haS' ho, z⟩
    · refine hst.keeps (s' := { heap := hp1.update S (Obj.mapSeq (·.push (.int (sl size code 0) t))), gens := g1, drawn := d1, toks := t1, os := o1 }) fun b o hb e => ?_
      refine keep3 b o ?_ e
      rcases hb with e | e | e <;> rw [e] <;> first | exact hL | exact hI | exact hGS
    · refine ynn b ?_
      rcases List.mem_cons.mp hb with z | z
      · have z : @Eq Nat b a := z
        omega
      · rcases List.mem_cons.mp z with z | z
        · have z : @Eq Nat b env.locals := z
          omega
        · have z : @Eq Nat b it := List.mem_singleton.mp z
          omega
    · refine hsl s'' fun b o hb e => z b o hb (keep3 b o ?_ e)
      rcases hb with e | e | e <;> rw [e] <;> first | exact hL | exact hI | exact hGS

theorem inList_lst {P : Program} {w : World} {H' : Hp} {S : Addr} {size code many : Int} {s : Shared} (h : InList S size code many.toNat s) (hle : many.toNat ≤ sizeLine) : ObjOk P w H' s.heap S (.lst (slots size code many)) := by
  obtain ⟨acc, c, hv, hS⟩ := h
  refine ⟨?_, acc.toList, c, hv, hS⟩
  unfold slots
  rw [List.length_map, List.length_range]
  exact hle
theorem call_listP {A : Around} {env : Env} {k a g : Nat} {c : Code} {size code many : Int} {H1 : Hp} {s1 s2 : Shared} {Q : VK} {E : Value → Shared → Prop} (hA : A = X.A) (hle : many.toNat ≤ sizeLine) (hr : Room (k + 3) A) (I1 : Inv X pins σ H1 s1) (m : PMade X.prog X.w k X.stack H1 s1 many.toNat size code a g c env s2)
    (hQ : ∀ p, H1 p = none → Q (.ref p) (upd H1 p (.lst (slots size code many)))) :
    wpAny (model X.prog X.w) A (call (.type "list") [.ref a]) (EP X pins σ Q) E s2 := by
  have y1 : @LE.le Nat _ s1.heap.objs.size env.locals := m.young
  have y2 : @LT.lt Nat _ env.locals a := m.La
  have y3 : @Eq Nat (a + 1) s2.heap.objs.size := m.aE
  have hSa : s2.heap.objs.size ≠ a := Nat.ne_of_gt (show @LT.lt Nat _ a s2.heap.objs.size by omega)
  refine callType_codes (Q₁ := fun obj s₁ => obj = .ref s2.heap.objs.size ∧ s₁ = { s2 with heap := s2.heap.push { cls := .type "list", data := .seq #[] } }) F.called_list (F.typeCall_list_1 _) F.entry_list_init
    (code_list_new _ ⟨rfl, rfl⟩) fun obj s₁ h₁ => ?_
  obtain ⟨rfl, rfl⟩ := h₁
  have hS : (s2.heap.push { cls := .type "list", data := .seq #[] }).get? s2.heap.objs.size = some { cls := .type "list", data := .seq #[] } := Heap.get?_push_size _ rfl
  refine ⟨⟨_, hS, rfl⟩, F.args_list_init_2 _ _, ?_⟩
  show wpAny _ A.in1.in1 (do let old ← Builtin.List.listItems (.ref s2.heap.objs.size); Builtin.List.listUpdate (.ref s2.heap.objs.size) (fun _ => #[]); letGo old.toList.reverse; Builtin.List.listExtendWith (.ref s2.heap.objs.size) (.ref a) .none) _ _ _
  refine wpAny_bind ?_
  unfold Builtin.List.listItems
  refine wpAny_bind (wpAny_seqItems hS rfl (wpAny_pure ?_))
  show wpAny _ A.in1.in1 (updateSeq s2.heap.objs.size (fun _ => #[]) >>= fun _ => letGo (#[] : Array Value).toList.reverse >>= fun _ => Builtin.List.listExtendWith (.ref s2.heap.objs.size) (.ref a) .none) _ _ _
  refine wpAny_bind (wpAny_updateSeq hS rfl ?_)
  have hS2 := Heap.get?_update_self (Obj.mapSeq (fun _ => (#[] : Array Value))) hS rfl
  refine wpAny_bind (wpAny_letGo ?_)
  unfold Builtin.List.listExtendWith
  have up : ∀ (h : Heap) (f : Obj → Obj), (∀ b o, s2.heap.get? b = some o → h.get? b = some o) → ∀ b o, s2.heap.get? b = some o → (h.update s2.heap.objs.size f).get? b = some o := fun h f q b o e =>
    (Heap.get?_update_other _ _ (Ne.symm (Nat.ne_of_lt (Heap.lt_size e)))).trans (q b o e)
  have k1 : ∀ b o, s2.heap.get? b = some o → (s2.heap.push { cls := .type "list", data := .seq #[] }).get? b = some o := fun b o e => Heap.get?_push_of_some _ e
  have k2 := up _ (Obj.mapSeq (fun _ => (#[] : Array Value))) k1
  have gty : ∀ {h : Heap}, (∀ b o, s2.heap.get? b = some o → h.get? b = some o) → h.IsGen a g := fun {h} q => m.gen.keeps q
  refine wpAny_bind (wpAny_typeOf (Heap.IsGen.typeIs (s := { s2 with heap := _ }) (gty k2)) ?_)
  have h1 : Builtin.List.listSameRef (.ref s2.heap.objs.size) (.ref a) = false := by simp [Builtin.List.listSameRef, hSa]
  have h2 : (Value.type "generator" == Value.type "list") = false := by decide
  have h3 : (Value.type "generator" == Value.type "tuple") = false := by decide
  simp only [h1, h2, h3, Bool.or_false, Bool.false_eq_true, if_false]
  refine wpAny_bind (wpAny_pyIter_gen (s := { s2 with heap := _ }) (gty k2) ?_)
  refine wpAny_bind (wpAny_holding ?_)
  unfold Builtin.List.listLengthHint
  refine wpAny_bind (wpAny_specialOf (Heap.IsGen.typeIs (s := { s2 with heap := _ }) (gty k2)) F.gen_no_len ?_)
  show wpAny _ A.in1.in1 (specialOf (Value.ref a) (Str.ofString "__length_hint__") >>= _) _ _ _
  refine wpAny_bind (wpAny_specialOf (Heap.IsGen.typeIs (s := { s2 with heap := _ }) (gty k2)) F.gen_no_hint ?_)
  refine wpAny_pure ?_
  show wpAny _ A.in1.in1 (rule "list.extend.makes-room" >>= fun _ => Builtin.List.listTouch (.ref s2.heap.objs.size) >>= fun _ =>
    again (.builtin "list.extend.loop" ⟨[.ref s2.heap.objs.size, .ref a, .none], []⟩)) _ _ _
  refine wpAny_bind (wpAny_rule ?_)
  refine wpAny_bind ?_
  show wpAny _ A.in1.in1 (updateSeq s2.heap.objs.size (·.push .none) >>= fun _ => updateSeq s2.heap.objs.size (·.pop)) _ _ _
  refine wpAny_bind (wpAny_updateSeq hS2 rfl ?_)
  have hS3 := Heap.get?_update_self (Obj.mapSeq (·.push Value.none)) hS2 rfl
  refine wpAny_updateSeq (hz := by seq_fits) hS3 rfl ?_
  have hS4 := Heap.get?_update_self (Obj.mapSeq (·.pop)) hS3 rfl
  have k4 := up _ (Obj.mapSeq (·.pop)) (up _ (Obj.mapSeq (·.push Value.none)) k2)
  refine wpAny_pure ⟨plainId_quiet F.plain_extend_loop _, ?_⟩
  refine drain0 (A := A.in1) hr.hd (by have := hr.dp; show A.depth < _; omega) hle I1 m ⟨hr.hd, ?_, ?_⟩ (by rw [hA]; exact I1.ok.frames) k4 rfl rfl hS4 (show @LT.lt Nat _ a s2.heap.objs.size by omega) fun s' I' hin => ⟨rfl, ?_⟩
  · have := hr.dp
    show A.depth + 3 * k + 5 < _
    omega
  · have := hr.un
    show A.units + 1 + 1 + 1 + 16 * k + 200 < _
    omega
  · have hn : H1 s2.heap.objs.size = none := I1.hok.fresh (show @LE.le Nat _ s1.heap.objs.size s2.heap.objs.size by omega)
    have fS : FpOk X pins H1 s2.heap.objs.size := I1.fpOk (show @LE.le Nat _ s1.heap.objs.size s2.heap.objs.size by omega) hn
    have hob : ∃ u, s'.heap.get? s2.heap.objs.size = some u := by
      obtain ⟨acc, c, _, h⟩ := hin
      exact ⟨_, h⟩
    exact ⟨.ref s2.heap.objs.size, _, inv_track I' fS hob (inList_lst hin hle), rfl, hQ _ hn⟩
/-- list(path(..)) -/
theorem pe_listP {f : Addr} {fd : FuncData} {k : Nat} {nmp nml : Str} {p p1 pos' pos : Pos} {e : Expr} {es : List Expr} {ta : TA}
    (F : PathDef X.prog X.w X.K X.mg X.base k f fd) (hr : Room (k + 3) X.A) (hg : Gl X nmp) (hm : X.mg nmp = some (.ref f)) (hk : PySem.W.keepIn X.K (.ref f) = true) (hb : Binds X.K fd pP []) (ha : PA X (e :: es) ta)
    (hgl : Gl X nml) (hmg : X.mg nml = none) (hv : bootBuiltins nml = some (.type "list")) (hnm : nml ≠ "__name__" := by decide) (hdl : (nml == ("__debug__" : Str)) = false := by decide)
    (hdb : (nmp == ("__debug__" : Str)) = false := by decide) (he : starEach (e :: es) X.env = (false, eval e X.env) :: starEach es X.env := by rfl) (hpl : (backTo pos' (starEach es X.env)).any (·.1) = false := by rfl)
    (he1 : starEach [.Call (.Name nmp p1) (e :: es) [] pos'] X.env = (false, eval (.Call (.Name nmp p1) (e :: es) [] pos') X.env) :: starEach [] X.env := by rfl) :
    PE X (.Call (.Name nml p) [.Call (.Name nmp p1) (e :: es) [] pos'] [] pos) (tListP ta) := by
  refine ⟨fun pins s σ H Q I h => ?_⟩
  refine wpAny_Call_Name_kw (ld_blt I hgl hmg hv ?_ hnm hdl)
  refine PyProof.Rows.callWith_type1 ?_ he1 rfl
  rw [he1]
  show wpAny _ _ (spliced ((false, eval (.Call (.Name nmp p1) (e :: es) [] pos') X.env) :: backTo pos (starEach [] X.env))) _ _ s
  refine Calls.spliced_cons ?_
  refine wpAny_Call_Name_kw (ld_glob I hg hm ?_ hdb)
  refine PySem.W.callWith_K (h₀ := X.base) I.ok.mod.kin hk (thn (ha.run pos' pins s σ H _ I h) fun us s1 ⟨vs, H1, I1, r1, q1⟩ => ⟨I1.kIn, ?_⟩) he hpl
  obtain ⟨code, size, many, rfl, ok, hle, hq⟩ := q1
  have hl2 : us.length = 3 := r1.length.symm
  have hbt : BindsTo s1 fd ⟨us, []⟩ (pP.zip us) := by
    have := hb s1 us I1.kIn (by rw [List.append_nil]; exact hl2)
    rw [List.append_nil] at this
    exact this
  refine wpAny_call (codeAny_mono (F ok (hr.mono (by omega)) I1.env0 hbt r1) fun r s2 hq' => ?_)
  cases r with
  | error e => exact False.elim hq'
  | ok fl =>
  cases fl with
  | next => exact False.elim hq'
  | brk => exact False.elim hq'
  | cont => exact False.elim hq'
  | ret u =>
  obtain ⟨a, g, c, env, rfl, m⟩ := hq'
  refine Calls.spliced_nil ?_
  exact call_listP rfl hle hr I1 m hq
end
end Pth
/-! mathematics of the paths -/
namespace K12
/-- the first slots of a path: slot, push, how many -/
def pathN (size : Nat) : Nat → Nat → Nat → List Nat
  | _, _, 0 => []
  | slot, push, n + 1 => slot :: pathN size ((5 * slot + push / 32 + 1) % size) (push / 32) n
def first (code size many : Nat) : List Nat := pathN size (code % size) code many

theorem pathN_len (size : Nat) : ∀ (n slot push : Nat), (pathN size slot push n).length = n
  | 0, _, _ => rfl
  | n + 1, _, _ => by simp [pathN, pathN_len size n]
theorem pathN_lt {size : Nat} (h : 0 < size) : ∀ (n slot push : Nat), slot < size → ∀ x ∈ pathN size slot push n, x < size
  | 0, _, _, _, x, hx => by simp [pathN] at hx
  | n + 1, slot, push, hs, x, hx => by
    simp only [pathN, List.mem_cons] at hx
    rcases hx with rfl | hx
    · exact hs
    · exact pathN_lt h n _ _ (Nat.mod_lt _ h) x hx

/-- half the size -/
theorem pathN_half {half : Nat} (_h : 0 < half) : ∀ (n slot push s2 : Nat), s2 = slot % half → pathN half s2 push n = (pathN (2 * half) slot push n).map (· % half)
  | 0, _, _, _, _ => rfl
  | n + 1, slot, push, s2, e => by
    simp only [pathN, List.map_cons]
    rw [e]
    congr 1
    refine pathN_half _h n _ _ _ ?_
    rw [Nat.mod_mul_left_mod]
    simp [Nat.add_mod, Nat.mul_mod]
theorem first_half {half code n : Nat} (h : 0 < half) : first code half n = (first code (2 * half) n).map (· % half) := by
  refine pathN_half h n _ _ _ ?_
  rw [Nat.mod_mul_left_mod]

/-- the slots as a function -/
def slotAt (size code : Nat) : Nat → Nat
  | 0 => code % size
  | i + 1 => (5 * slotAt size code i + code / 32 ^ (i + 1) + 1) % size
theorem pathN_get (size code : Nat) : ∀ (n i : Nat), pathN size (slotAt size code i) (code / 32 ^ i) n = (List.range' i n).map (slotAt size code)
  | 0, i => rfl
  | n + 1, i => by
    simp only [pathN, List.range'_succ, List.map_cons]
    congr 1
    rw [← pathN_get size code n (i + 1)]
    rw [Nat.div_div_eq_div_mul, ← Nat.pow_succ]
    rfl
theorem first_eq (code size n : Nat) : first code size n = (List.range n).map (slotAt size code) := by
  have h := pathN_get size code n 0
  simp only [Nat.pow_zero, Nat.div_one] at h
  rw [List.range_eq_range']
  exact h

/-- behind the sixth step the pushes are 0 -/
theorem push_zero {code i : Nat} (h : code < 4294967296) (hi : 7 ≤ i) : code / 32 ^ i = 0 := by
  apply Nat.div_eq_of_lt
  refine Nat.lt_of_lt_of_le h ?_
  refine Nat.le_trans (show 4294967296 ≤ 32 ^ 7 by decide) ?_
  exact Nat.pow_le_pow_right (by decide) hi

/-! the cycle x -> 5 x + 1 modulo a power of two -/
theorem five_odd_pow (e : Nat) : 5 ^ e % 4 = 1 := by
  induction e with
  | zero => rfl
  | succ e ih => rw [Nat.pow_succ]; omega
/-- the order of 5 modulo 2 ^ (m + 2) is 2 ^ m -/
theorem order5 : ∀ (m d : Nat), 2 ^ (m + 2) ∣ 5 ^ d - 1 → 2 ^ m ∣ d
  | 0, d, _ => by simp
  | m + 1, d, h => by
    have h8 : 8 ∣ 5 ^ d - 1 := by
      refine Nat.dvd_trans ?_ h
      rw [show (8 : Nat) = 2 ^ 3 by rfl]
      exact Nat.pow_dvd_pow 2 (by omega)
    have hd : d % 2 = 0 := by
      rcases Nat.mod_two_eq_zero_or_one d with e | e
      · exact e
      · exfalso
        obtain ⟨k, rfl⟩ : ∃ k, d = 2 * k + 1 := ⟨d / 2, by omega⟩
        have h25 : 5 ^ (2 * k + 1) % 8 = 5 := by
          clear h h8 e
          induction k with
          | zero => rfl
          | succ k ih =>
            rw [show 2 * (k + 1) + 1 = (2 * k + 1) + 2 by omega, Nat.pow_add]
            rw [Nat.mul_mod, ih]
        obtain ⟨q, hq⟩ := h8
        have : 0 < 5 ^ (2 * k + 1) := Nat.pow_pos (by decide)
        omega
    obtain ⟨e, rfl⟩ : ∃ e, d = 2 * e := ⟨d / 2, by omega⟩
    have h5 := five_odd_pow e
    have hp : 0 < 5 ^ e := Nat.pow_pos (by decide)
    obtain ⟨t, ht⟩ : ∃ t, 5 ^ e = 4 * t + 1 := ⟨5 ^ e / 4, by omega⟩
    have hsq : 5 ^ (2 * e) - 1 = (5 ^ e - 1) * (2 * (2 * t + 1)) := by
      rw [Nat.two_mul, Nat.pow_add, ht]
      simp only [Nat.add_sub_cancel]
      have : (4 * t + 1) * (4 * t + 1) = 4 * t * (2 * (2 * t + 1)) + 1 := by
        simp only [Nat.mul_add, Nat.add_mul, Nat.mul_one, Nat.one_mul]
        have e1 : 4 * t * (2 * (2 * t)) = 16 * (t * t) := by
          rw [show 2 * (2 * t) = 4 * t by omega]
          rw [Nat.mul_mul_mul_comm]
        have e2 : 4 * t * (4 * t) = 16 * (t * t) := by rw [Nat.mul_mul_mul_comm]
        omega
      omega
    rw [hsq, Nat.pow_succ, Nat.mul_comm (2 ^ (m + 2)) 2] at h
    have h2 : 2 * 2 ^ (m + 2) ∣ 2 * ((5 ^ e - 1) * (2 * t + 1)) := by
      have e3 : (5 ^ e - 1) * (2 * (2 * t + 1)) = 2 * ((5 ^ e - 1) * (2 * t + 1)) := by
        rw [← Nat.mul_assoc, Nat.mul_comm (5 ^ e - 1) 2, Nat.mul_assoc]
      rw [← e3]; rw [show m + 2 = m + 1 + 1 by rfl]; exact h
    have h3 : 2 ^ (m + 2) ∣ (5 ^ e - 1) * (2 * t + 1) := Nat.dvd_of_mul_dvd_mul_left (by decide) h2
    have hco : Nat.Coprime (2 ^ (m + 2)) (2 * t + 1) := by
      apply Nat.Coprime.pow_left
      show Nat.gcd 2 (2 * t + 1) = 1
      rw [Nat.gcd_rec]
      rw [show (2 * t + 1) % 2 = 1 by omega]
      rfl
    have h4 : 2 ^ (m + 2) ∣ 5 ^ e - 1 := Nat.Coprime.dvd_of_dvd_mul_right hco h3
    have h5' := order5 m e h4
    rw [Nat.pow_succ, Nat.mul_comm]
    exact Nat.mul_dvd_mul_left 2 h5'

/-- the walk x -> 5 x + 1 modulo N from x -/
def orb (N : Nat) (x : Nat) : Nat → Nat
  | 0 => x
  | n + 1 => (5 * orb N x n + 1) % N
theorem orb_lt {N x : Nat} (h : x < N) : ∀ n, orb N x n < N
  | 0 => h
  | n + 1 => Nat.mod_lt _ (by omega)
/-- four times the place and one is a power of five times what it was -/
theorem orb_pow {N x : Nat} (h : x < N) (n : Nat) : (4 * orb N x n + 1) % (4 * N) = (5 ^ n * (4 * x + 1)) % (4 * N) := by
  induction n with
  | zero => simp [orb]
  | succ n ih =>
    have e : (4 * orb N x (n + 1) + 1) % (4 * N) = (5 * (4 * orb N x n + 1)) % (4 * N) := by
      show (4 * ((5 * orb N x n + 1) % N) + 1) % (4 * N) = _
      have h1 : 4 * ((5 * orb N x n + 1) % N) = (4 * (5 * orb N x n + 1)) % (4 * N) := (Nat.mul_mod_mul_left 4 _ N).symm
      rw [h1, Nat.mod_add_mod]
      congr 1
      omega
    rw [e, Nat.mul_mod, ih, ← Nat.mul_mod, Nat.pow_succ, ← Nat.mul_assoc, Nat.mul_comm (5 ^ n) 5]
theorem odd_dvd {m y z : Nat} (hy : y % 2 = 1) (h : 2 ^ m ∣ z * y) : 2 ^ m ∣ z := by
  refine Nat.Coprime.dvd_of_dvd_mul_right ?_ h
  apply Nat.Coprime.pow_left
  show Nat.gcd 2 y = 1
  rw [Nat.gcd_rec, hy]
  rfl
theorem orb_ne {m x i j : Nat} (hx : x < 2 ^ m) (hij : i < j) (hj : j < i + 2 ^ m) : orb (2 ^ m) x i ≠ orb (2 ^ m) x j := by
  intro e
  have hi := orb_pow hx i
  have hj' := orb_pow hx j
  rw [← e] at hj'
  rw [hi] at hj'
  obtain ⟨d, rfl⟩ : ∃ d, j = i + d := ⟨j - i, by omega⟩
  have hd0 : 0 < d := by omega
  have hle : 5 ^ i * (4 * x + 1) ≤ 5 ^ (i + d) * (4 * x + 1) := Nat.mul_le_mul_right _ (Nat.pow_le_pow_right (by decide) (by omega))
  have hdv : 4 * 2 ^ m ∣ 5 ^ (i + d) * (4 * x + 1) - 5 ^ i * (4 * x + 1) := Nat.dvd_of_mod_eq_zero (Nat.sub_mod_eq_zero_of_mod_eq hj'.symm)
  have e4 : 4 * 2 ^ m = 2 ^ (m + 2) := by rw [Nat.pow_add]; omega
  rw [e4] at hdv
  have e5 : 5 ^ (i + d) * (4 * x + 1) - 5 ^ i * (4 * x + 1) = (5 ^ d - 1) * (5 ^ i * (4 * x + 1)) := by
    rw [Nat.pow_add, Nat.sub_mul, Nat.one_mul]
    congr 1
    rw [Nat.mul_comm (5 ^ i) (5 ^ d), Nat.mul_assoc]
  rw [e5] at hdv
  have hodd : (5 ^ i * (4 * x + 1)) % 2 = 1 := by
    have h5 := five_odd_pow i
    rw [Nat.mul_mod]
    rw [show 5 ^ i % 2 = 1 by omega, show (4 * x + 1) % 2 = 1 by omega]
  have h1 := order5 m d (odd_dvd hodd hdv)
  have := Nat.le_of_dvd hd0 h1
  omega

theorem len_le : ∀ (N : Nat) (l : List Nat), l.Nodup → (∀ x ∈ l, x < N) → l.length ≤ N
  | 0, l, _, h => by
    cases l with
    | nil => exact Nat.le_refl _
    | cons a t => exact absurd (h a List.mem_cons_self) (Nat.not_lt_zero _)
  | N + 1, l, nd, h => by
    by_cases hm : N ∈ l
    · have h1 := len_le N (l.erase N) (nd.erase _) (fun x hx => by
        have hx' := (nd.mem_erase_iff).mp hx
        have := h x hx'.2
        have := hx'.1
        omega)
      rw [List.length_erase_of_mem hm] at h1
      omega
    · have h1 := len_le N l nd (fun x hx => by
        have h2 := h x hx
        have h3 : x ≠ N := fun e => hm (e ▸ hx)
        omega)
      omega
theorem all_mem : ∀ (N : Nat) (l : List Nat), l.Nodup → (∀ x ∈ l, x < N) → l.length = N → ∀ x, x < N → x ∈ l := by
  intro N l nd h hl x hx
  refine Classical.byContradiction fun hm => ?_
  have h1 := len_le N (x :: l) (List.nodup_cons.mpr ⟨hm, nd⟩) (fun y hy => by
    rcases List.mem_cons.mp hy with rfl | hy
    · exact hx
    · exact h y hy)
  rw [List.length_cons] at h1
  omega
/-- from the sixth step on a path goes round the whole cycle -/
theorem slotAt_lt {size : Nat} (h : 0 < size) (code i : Nat) : slotAt size code i < size := by
  cases i <;> exact Nat.mod_lt _ h
theorem slotAt_orb {size code : Nat} (hc : code < 4294967296) (i : Nat) : slotAt size code (6 + i) = orb size (slotAt size code 6) i := by
  induction i with
  | zero => rfl
  | succ i ih =>
    show (5 * slotAt size code (6 + i) + code / 32 ^ (6 + i + 1) + 1) % size = (5 * orb size (slotAt size code 6) i + 1) % size
    rw [ih, push_zero hc (by omega), Nat.add_zero]
def tailOf (code size : Nat) : List Nat := (first code size (size + 6)).drop 6
theorem tailOf_eq (code size : Nat) : tailOf code size = (List.range size).map fun i => slotAt size code (6 + i) := by
  unfold tailOf
  rw [first_eq, ← List.map_drop, List.range_eq_range', List.drop_range', List.range_eq_range', List.range'_eq_map_range]
  rw [List.map_map]
  rw [show size + 6 - 6 = size by omega, List.range_eq_range']
  apply List.map_congr_left
  intro a _
  simp
theorem tail_nodup {m code : Nat} (hc : code < 4294967296) : (tailOf code (2 ^ m)).Nodup := by
  rw [tailOf_eq]
  have hp : 0 < 2 ^ m := Nat.pow_pos (by decide)
  rw [List.Nodup, List.pairwise_map]
  refine List.Pairwise.imp_of_mem ?_ (List.pairwise_lt_range (n := 2 ^ m))
  intro i j hi hj hij
  rw [List.mem_range] at hi hj
  rw [slotAt_orb hc, slotAt_orb hc]
  exact orb_ne (slotAt_lt hp _ _) hij (by omega)
theorem tail_lt {size : Nat} (h : 0 < size) (code : Nat) : ∀ x ∈ tailOf code size, x < size := by
  intro x hx
  rw [tailOf_eq] at hx
  obtain ⟨i, _, rfl⟩ := List.mem_map.mp hx
  exact slotAt_lt h _ _
theorem tail_len (code size : Nat) : (tailOf code size).length = size := by rw [tailOf_eq, List.length_map, List.length_range]
theorem tail_perm {m code : Nat} (hc : code < 4294967296) : (tailOf code (2 ^ m)).Perm (List.range (2 ^ m)) := by
  have hp : 0 < 2 ^ m := Nat.pow_pos (by decide)
  refine (List.perm_ext_iff_of_nodup (tail_nodup hc) List.nodup_range).mpr fun x => ⟨fun hx => ?_, fun hx => ?_⟩
  · exact List.mem_range.mpr (tail_lt hp code x hx)
  · exact all_mem _ _ (tail_nodup hc) (tail_lt hp code) (tail_len _ _) x (List.mem_range.mp hx)
theorem first_mem {m code : Nat} (hc : code < 4294967296) (x : Nat) : x ∈ first code (2 ^ m) (2 ^ m + 6) ↔ x < 2 ^ m := by
  have hp : 0 < 2 ^ m := Nat.pow_pos (by decide)
  constructor
  · intro hx
    exact pathN_lt hp _ _ _ (Nat.mod_lt _ hp) x hx
  · intro hx
    have : x ∈ tailOf code (2 ^ m) := (tail_perm hc).symm.subset (List.mem_range.mpr hx)
    exact List.mem_of_mem_drop this

/-! what two codes share -/
theorem slots_same {size a b : Nat} : ∀ (i : Nat), (∀ j, j ≤ i → a / 32 ^ j % size = b / 32 ^ j % size) → slotAt size a i = slotAt size b i
  | 0, h => by
    have := h 0 (Nat.le_refl _)
    simpa [slotAt] using this
  | i + 1, h => by
    have ih := slots_same i (fun j hj => h j (by omega))
    have h1 := h (i + 1) (Nat.le_refl _)
    show (5 * slotAt size a i + a / 32 ^ (i + 1) + 1) % size = (5 * slotAt size b i + b / 32 ^ (i + 1) + 1) % size
    rw [ih, Nat.add_assoc, Nat.add_assoc, Nat.add_mod, Nat.add_mod _ (b / 32 ^ (i + 1) + 1), Nat.add_mod (a / 32 ^ (i + 1)), Nat.add_mod (b / 32 ^ (i + 1)), h1]
theorem step_same {size a b i : Nat} (hs : 0 < size) (h : slotAt size a i = slotAt size b i) : slotAt size a (i + 1) = slotAt size b (i + 1) ↔ a / 32 ^ (i + 1) % size = b / 32 ^ (i + 1) % size := by
  show (5 * slotAt size a i + a / 32 ^ (i + 1) + 1) % size = (5 * slotAt size b i + b / 32 ^ (i + 1) + 1) % size ↔ _
  rw [h]
  have e : ∀ c : Nat, 5 * slotAt size b i + c + 1 = (5 * slotAt size b i + 1) + c := fun c => by omega
  rw [e, e]
  constructor
  · intro q
    have : ∀ x y d : Nat, (d + x) % size = (d + y) % size → x % size = y % size := by
      intro x y d q
      have h1 : ((d + x : Nat) : Int) % size = ((d + y : Nat) : Int) % size := by exact_mod_cast q
      have h2 : ((x : Nat) : Int) % size = ((y : Nat) : Int) % size := by
        have h3 : (size : Int) ∣ ((d + x : Nat) : Int) - ((d + y : Nat) : Int) := Int.dvd_of_emod_eq_zero (Int.emod_eq_emod_iff_emod_sub_eq_zero.mp h1)
        apply Int.emod_eq_emod_iff_emod_sub_eq_zero.mpr
        apply Int.emod_eq_zero_of_dvd
        have e3 : ((d + x : Nat) : Int) - ((d + y : Nat) : Int) = (x : Int) - y := by omega
        rw [← e3]; exact h3
      exact_mod_cast h2
    exact this _ _ _ q
  · intro q
    rw [Nat.add_mod, q, ← Nat.add_mod]
/-- codes that are equal modulo size * 32 ^ k share k + 1 slots -/
theorem share {size a b k : Nat} (h : a % (size * 32 ^ k) = b % (size * 32 ^ k)) : ∀ i, i ≤ k → slotAt size a i = slotAt size b i := by
  intro i hi
  refine slots_same i fun j hj => ?_
  have e : size * 32 ^ k = 32 ^ j * (size * 32 ^ (k - j)) := by
    have : 32 ^ k = 32 ^ j * 32 ^ (k - j) := by rw [← Nat.pow_add]; congr 1; omega
    rw [this, ← Nat.mul_assoc, Nat.mul_comm size, Nat.mul_assoc]
  have h1 : a % (32 ^ j * (size * 32 ^ (k - j))) / 32 ^ j = b % (32 ^ j * (size * 32 ^ (k - j))) / 32 ^ j := by rw [← e, h]
  rw [Nat.mod_mul_right_div_self, Nat.mod_mul_right_div_self] at h1
  have h2 : a / 32 ^ j % (size * 32 ^ (k - j)) % size = b / 32 ^ j % (size * 32 ^ (k - j)) % size := by rw [h1]
  rw [Nat.mod_mul_right_mod, Nat.mod_mul_right_mod] at h2
  exact h2
theorem first_take {a size n k : Nat} (h : k ≤ n) : (first a size n).take k = (List.range k).map (slotAt size a) := by
  rw [first_eq, ← List.map_take, List.take_range]
  rw [Nat.min_eq_left h]
/-- two starts of paths are equal: slot by slot -/
theorem take_same {a b size n k : Nat} (h : k ≤ n) : (first a size n).take k = (first b size n).take k ↔ ∀ i, i < k → slotAt size a i = slotAt size b i := by
  rw [first_take h, first_take h]
  constructor
  · intro q i hi
    have := List.map_inj_left.mp q i (List.mem_range.mpr hi)
    exact this
  · intro q
    exact List.map_congr_left fun i hi => q i (List.mem_range.mp hi)
/-- the law's question at a turn -/
theorem turn_same {a b size n k : Nat} (hs : 0 < size) (h : k + 1 ≤ n) (q : (first a size n).take k = (first b size n).take k) :
    ((first a size n).take (k + 1) = (first b size n).take (k + 1)) ↔ a / 32 ^ k % size = b / 32 ^ k % size := by
  rw [take_same (by omega)] at q ⊢
  cases k with
  | zero =>
    constructor
    · intro z
      have := z 0 (by omega)
      simpa [slotAt] using this
    · intro z i hi
      obtain rfl : i = 0 := by omega
      simpa [slotAt] using z
  | succ k =>
    have hk := q k (by omega)
    constructor
    · intro z
      exact (step_same hs hk).mp (z (k + 1) (by omega))
    · intro z i hi
      by_cases e : i < k + 1
      · exact q i e
      · obtain rfl : i = k + 1 := by omega
        exact (step_same hs hk).mpr z
end K12
set_option Elab.async false
set_option linter.all false
set_option maxRecDepth 100000
namespace K14
open PySem L2
def top (i : Nat) : Stmt := PySem.Challenge.pw_entryhall_k14_whole_placed_indexes_are_f.main.body.getD i (.Pass ⟨0, 0, 0, 0⟩)
/-- a def of the text -/
structure Df (K : PySem.W.Frag) (mg : Str → Option Value) (name qual : Str) (st : Stmt) (ps : List Str) (f : Addr) (fd : FuncData) : Prop where
  F : Fun K name qual st f fd
  b : Binds K fd ps []
  g : mg name = some (.ref f)
/-- the built-ins stand as they are -/
structure Bl (mg : Str → Option Value) : Prop where
  isinstance : mg "isinstance" = none
  int : mg "int" = none
  bool : mg "bool" = none
  list : mg "list" = none
  range : mg "range" = none
  len : mg "len" = none
  min : mg "min" = none
  max : mg "max" = none
  sorted : mg "sorted" = none
  enumerate : mg "enumerate" = none
section
variable {P : Program} {w : World} {K : PySem.W.Frag} {mg : Str → Option Value} {base : Heap}
theorem pInt {X : Cx} {pos : Pos} (hg : Gl X "int") (hm : X.mg "int" = none) : PE X (.Name "int" pos) (tC (.ty "int")) := pe_bltn (v := .ty "int") (u := .type "int") hg hm (by decide +kernel) rfl
theorem pBool {X : Cx} {pos : Pos} (hg : Gl X "bool") (hm : X.mg "bool" = none) : PE X (.Name "bool" pos) (tC (.ty "bool")) := pe_bltn (v := .ty "bool") (u := .type "bool") hg hm (by decide +kernel) rfl
/-! ### entryhall.codes -/
abbrev sWhole : Stmt := top 11
abbrev sBetween : Stmt := top 12
abbrev sCount : Stmt := top 13
abbrev sCode : Stmt := top 14
abbrev sNeedCode : Stmt := top 15
def spWhole : Sp := fun vs H Q _ => ∃ n : Int, vs = [.int n] ∧ Q (.bl true) H
theorem scWhole : FnScope ["thing"] ["thing"] (defScope sWhole) := ⟨rfl, rfl, rfl, by decide +kernel, rfl, by decide +kernel, by decide +kernel⟩
theorem ok_whole {f : Addr} {fd : FuncData} (D : Df K mg "is_whole" "is_whole" sWhole ["thing"] f fd) (T : Bl mg) : FnOk P w K mg base CX0 1 f fd ["thing"] spWhole := by
  refine D.F.ok scWhole (fun vs H Q E h => ?_) (fun cdv A outer s H vs Q E hr h => ?_)
  · obtain ⟨n, rfl, _⟩ := h
    rfl
  · obtain ⟨n, rfl, k⟩ := h
    refine ⟨_, pss_one (ps_ret (pe_and (pe_callB call_isi (by rfl) T.isinstance (by decide +kernel) (pa_cons (pv 0) (pa_cons (pInt (by rfl) T.int) pa_nil)))
      (pe_one (pe_not (pe_callB call_isi (by rfl) T.isinstance (by decide +kernel) (pa_cons (pv 0) (pa_cons (pBool (by rfl) T.bool) pa_nil))))))), ?_⟩
    refine ⟨_, rfl, _, _, _, _, true, rfl, .ty _, .base (.int _), kit_ty (by decide +kernel), true, rfl, ?_⟩
    refine ⟨_, rfl, _, _, _, _, false, rfl, .ty _, .base (.int _), kit_ty (by decide +kernel), false, rfl, ?_⟩
    exact k
def spBetween : Sp := fun vs H Q _ => ∃ n lo hi : Int, vs = [.int n, .int lo, .int hi] ∧ Q (.bl (decide (lo ≤ n) && decide (n ≤ hi))) H
theorem scBetween : FnScope ["thing", "low", "high"] ["thing", "low", "high"] (defScope sBetween) := ⟨rfl, rfl, rfl, by decide +kernel, rfl, by decide +kernel, by decide +kernel⟩
theorem ok_between {f f1 : Addr} {fd fd1 : FuncData} (D : Df K mg "is_between" "is_between" sBetween ["thing", "low", "high"] f fd) (D1 : Df K mg "is_whole" "is_whole" sWhole ["thing"] f1 fd1) (G1 : FnOk P w K mg base CX0 1 f1 fd1 ["thing"] spWhole) :
    FnOk P w K mg base CX0 2 f fd ["thing", "low", "high"] spBetween := by
  refine D.F.ok scBetween (fun vs H Q E h => ?_) (fun cdv A outer s H vs Q E hr h => ?_)
  · obtain ⟨n, lo, hi, rfl, _⟩ := h
    rfl
  · obtain ⟨n, lo, hi, rfl, k⟩ := h
    refine ⟨_, pss_one (ps_ret (pe_and (pe_call G1 hr rfl D1.g D1.F.kp D1.b .nil pass0 (pa_cons (pv 0) pa_nil)) (pe_one (pe_chain op_le op_le (pv 1) (pv 0) (pv 2))))), ?_⟩
    refine ⟨_, rfl, _, rfl, true, rfl, ?_⟩
    refine ⟨_, rfl, _, rfl, _, _, rfl, rfl, _, rfl, ?_⟩
    refine ite2 (fun e => ?_) (fun e => ?_)
    · refine ⟨_, rfl, _, _, rfl, rfl, ?_⟩
      rw [e, Bool.true_and] at k
      exact k
    · rw [Bool.eq_false_iff.mpr e, Bool.false_and] at k
      exact k
def spCount : Sp := fun vs H Q _ => ∃ n : Int, vs = [.int n] ∧ Q (.bl (decide (0 ≤ n))) H
theorem scCount : FnScope ["thing"] ["thing"] (defScope sCount) := ⟨rfl, rfl, rfl, by decide +kernel, rfl, by decide +kernel, by decide +kernel⟩
theorem ok_count {f f1 : Addr} {fd fd1 : FuncData} (D : Df K mg "is_count" "is_count" sCount ["thing"] f fd) (D1 : Df K mg "is_whole" "is_whole" sWhole ["thing"] f1 fd1) (G1 : FnOk P w K mg base CX0 1 f1 fd1 ["thing"] spWhole) :
    FnOk P w K mg base CX0 2 f fd ["thing"] spCount := by
  refine D.F.ok scCount (fun vs H Q E h => ?_) (fun cdv A outer s H vs Q E hr h => ?_)
  · obtain ⟨n, rfl, _⟩ := h
    rfl
  · obtain ⟨n, rfl, k⟩ := h
    refine ⟨_, pss_one (ps_ret (pe_and (pe_call G1 hr rfl D1.g D1.F.kp D1.b .nil pass0 (pa_cons (pv 0) pa_nil)) (pe_one (pe_cmpR op_ge (pv 0) pe_int (nomark _))))), ?_⟩
    refine ⟨_, rfl, _, rfl, true, rfl, ?_⟩
    refine ⟨_, rfl, _, _, rfl, rfl, ?_⟩
    exact k
def spCode : Sp := fun vs H Q _ => ∃ n : Int, vs = [.int n] ∧ Q (.bl (decide (0 ≤ n) && decide (n ≤ 4294967295))) H
theorem scCode : FnScope ["thing"] ["thing"] (defScope sCode) := ⟨rfl, rfl, rfl, by decide +kernel, rfl, by decide +kernel, by decide +kernel⟩
theorem ok_code {f f1 : Addr} {fd fd1 : FuncData} {t : Tok} (D : Df K mg "is_code" "is_code" sCode ["thing"] f fd) (D1 : Df K mg "is_between" "is_between" sBetween ["thing", "low", "high"] f1 fd1) (G1 : FnOk P w K mg base CX0 2 f1 fd1 ["thing", "low", "high"] spBetween)
    (mC : mg "CODES" = some (.int 4294967296 t)) : FnOk P w K mg base CX0 3 f fd ["thing"] spCode := by
  refine D.F.ok scCode (fun vs H Q E h => ?_) (fun cdv A outer s H vs Q E hr h => ?_)
  · obtain ⟨n, rfl, _⟩ := h
    rfl
  · obtain ⟨n, rfl, k⟩ := h
    refine ⟨_, pss_one (ps_ret (pe_call G1 hr rfl D1.g D1.F.kp D1.b .nil pass0 (pa_cons (pv 0) (pa_cons pe_int (pa_cons (pe_op op_sub (pe_glob (v := .int 4294967296) rfl mC ⟨_, rfl⟩) pe_int) pa_nil))))), ?_⟩
    exact ⟨_, rfl, _, _, rfl, rfl, _, _, _, rfl, k⟩
def spNeedCode : Sp := fun vs H Q _ => ∃ n : Int, vs = [.int n] ∧ 0 ≤ n ∧ n < 4294967296 ∧ Q .non H
theorem scNeedCode : FnScope ["thing"] ["thing"] (defScope sNeedCode) := ⟨rfl, rfl, rfl, by decide +kernel, rfl, by decide +kernel, by decide +kernel⟩
theorem ok_needCode {f f1 : Addr} {fd fd1 : FuncData} (D : Df K mg "need_code" "need_code" sNeedCode ["thing"] f fd) (D1 : Df K mg "is_code" "is_code" sCode ["thing"] f1 fd1) (G1 : FnOk P w K mg base CX0 3 f1 fd1 ["thing"] spCode) :
    FnOk P w K mg base CX0 4 f fd ["thing"] spNeedCode := by
  refine D.F.ok scNeedCode (fun vs H Q E h => ?_) (fun cdv A outer s H vs Q E hr h => ?_)
  · obtain ⟨n, rfl, _⟩ := h
    rfl
  · obtain ⟨n, rfl, h0, h1, k⟩ := h
    refine ⟨_, pss_one (ps_if (pt_not (pt_val (pe_call G1 hr rfl D1.g D1.F.kp D1.b .nil pass0 (pa_cons (pv 0) pa_nil)))) (pss_one ps_never) pss_nil), ?_⟩
    refine ⟨_, rfl, _, rfl, true, ?_, ?_⟩
    · rw [decide_eq_true h0, decide_eq_true (show n ≤ 4294967295 by omega)]
      rfl
    · exact iteF k
/-! ### entryhall.slots: the defs -/
abbrev sSize : Stmt := top 22
abbrev sNeedSize : Stmt := top 23
abbrev sNeedIndex : Stmt := top 24
abbrev sCap : Stmt := top 25
abbrev sPath : Stmt := top 26
abbrev sFirst : Stmt := top 27
def sizesI : List Int := [8, 16, 32, 64, 128, 256, 512, 1024, 2048, 4096]
def sizesV : List V := [.int 8, .int 16, .int 32, .int 64, .int 128, .int 256, .int 512, .int 1024, .int 2048, .int 4096]
/-- the tuple SIZES of the module's top -/
def TupK (K : PySem.W.Frag) (a : Addr) (xs : List V) : Prop := ∃ (o : Obj) (its : Array Value) (n : Nat), K.lookup a = some o ∧ o.cls = .type "tuple" ∧ o.data = .seq its n ∧ its.size ≤ sizeLine ∧ Vals xs its.toList
theorem sizes_in {n : Int} (h : n ∈ sizesI) : inV (.int n) sizesV = true := by
  unfold sizesI at h
  simp only [List.mem_cons, List.not_mem_nil, or_false] at h
  rcases h with h | h | h | h | h | h | h | h | h | h <;> subst h <;> rfl
theorem sizes_pos {n : Int} (h : n ∈ sizesI) : 8 ≤ n ∧ n ≤ 4096 := by
  unfold sizesI at h
  simp only [List.mem_cons, List.not_mem_nil, or_false] at h
  rcases h with h | h | h | h | h | h | h | h | h | h <;> subst h <;> decide
def spSize : Sp := fun vs H Q _ => ∃ n : Int, vs = [.int n] ∧ n ∈ sizesI ∧ Q (.bl true) H
theorem scSize : FnScope ["thing"] ["thing"] (defScope sSize) := ⟨rfl, rfl, rfl, by decide +kernel, rfl, by decide +kernel, by decide +kernel⟩
theorem ok_size {f f1 aS : Addr} {fd fd1 : FuncData} (D : Df K mg "is_size" "is_size" sSize ["thing"] f fd) (D1 : Df K mg "is_whole" "is_whole" sWhole ["thing"] f1 fd1) (G1 : FnOk P w K mg base CX0 1 f1 fd1 ["thing"] spWhole)
    (mS : mg "SIZES" = some (.ref aS)) (tS : TupK K aS sizesV) : FnOk P w K mg base CX0 2 f fd ["thing"] spSize := by
  refine D.F.ok scSize (fun vs H Q E h => ?_) (fun cdv A outer s H vs Q E hr h => ?_)
  · obtain ⟨n, rfl, _⟩ := h
    rfl
  · obtain ⟨n, rfl, hn, k⟩ := h
    refine ⟨_, pss_one (ps_ret (pe_and (pe_call G1 hr rfl D1.g D1.F.kp D1.b .nil pass0 (pa_cons (pv 0) pa_nil)) (pe_one (pe_cmpR op_in_seq (pv 0) (pe_glob (v := .ref aS) rfl mS rfl) (by rfl))))), ?_⟩
    refine ⟨_, rfl, _, rfl, true, rfl, ?_⟩
    refine ⟨_, rfl, aS, sizesV, rfl, .inr (.inr tS), rfl, rfl, ?_⟩
    show Q (.bl (inV (.int n) sizesV)) H
    rw [sizes_in hn]
    exact k
def spNeedSize : Sp := fun vs H Q _ => ∃ n : Int, vs = [.int n] ∧ n ∈ sizesI ∧ Q .non H
theorem scNeedSize : FnScope ["size"] ["size"] (defScope sNeedSize) := ⟨rfl, rfl, rfl, by decide +kernel, rfl, by decide +kernel, by decide +kernel⟩
theorem ok_needSize {f f1 : Addr} {fd fd1 : FuncData} (D : Df K mg "_need_size" "_need_size" sNeedSize ["size"] f fd) (D1 : Df K mg "is_size" "is_size" sSize ["thing"] f1 fd1) (G1 : FnOk P w K mg base CX0 2 f1 fd1 ["thing"] spSize) :
    FnOk P w K mg base CX0 3 f fd ["size"] spNeedSize := by
  refine D.F.ok scNeedSize (fun vs H Q E h => ?_) (fun cdv A outer s H vs Q E hr h => ?_)
  · obtain ⟨n, rfl, _⟩ := h
    rfl
  · obtain ⟨n, rfl, hn, k⟩ := h
    refine ⟨_, pss_one (ps_if (pt_not (pt_val (pe_call G1 hr rfl D1.g D1.F.kp D1.b .nil pass0 (pa_cons (pv 0) pa_nil)))) (pss_one ps_never) pss_nil), ?_⟩
    exact ⟨_, rfl, _, rfl, hn, true, rfl, iteF k⟩
def spNeedIndex : Sp := fun vs H Q _ => ∃ n : Int, vs = [.int n] ∧ 0 ≤ n ∧ Q .non H
theorem scNeedIndex : FnScope ["index"] ["index"] (defScope sNeedIndex) := ⟨rfl, rfl, rfl, by decide +kernel, rfl, by decide +kernel, by decide +kernel⟩
theorem ok_needIndex {f f1 : Addr} {fd fd1 : FuncData} (D : Df K mg "_need_index" "_need_index" sNeedIndex ["index"] f fd) (D1 : Df K mg "is_count" "is_count" sCount ["thing"] f1 fd1) (G1 : FnOk P w K mg base CX0 2 f1 fd1 ["thing"] spCount) :
    FnOk P w K mg base CX0 3 f fd ["index"] spNeedIndex := by
  refine D.F.ok scNeedIndex (fun vs H Q E h => ?_) (fun cdv A outer s H vs Q E hr h => ?_)
  · obtain ⟨n, rfl, _⟩ := h
    rfl
  · obtain ⟨n, rfl, hn, k⟩ := h
    refine ⟨_, pss_one (ps_if (pt_not (pt_val (pe_call G1 hr rfl D1.g D1.F.kp D1.b .nil pass0 (pa_cons (pv 0) pa_nil)))) (pss_one ps_never) pss_nil), ?_⟩
    refine ⟨_, rfl, _, rfl, true, by rw [decide_eq_true hn], iteF k⟩
def spCap : Sp := fun vs H Q _ => ∃ n : Int, vs = [.int n] ∧ n ∈ sizesI ∧ Q (.int (2 * n / 3)) H
theorem scCap : FnScope ["size"] ["size"] (defScope sCap) := ⟨rfl, rfl, rfl, by decide +kernel, rfl, by decide +kernel, by decide +kernel⟩
theorem ok_cap {f f1 : Addr} {fd fd1 : FuncData} (D : Df K mg "capacity" "capacity" sCap ["size"] f fd) (D1 : Df K mg "_need_size" "_need_size" sNeedSize ["size"] f1 fd1) (G1 : FnOk P w K mg base CX0 3 f1 fd1 ["size"] spNeedSize) :
    FnOk P w K mg base CX0 4 f fd ["size"] spCap := by
  refine D.F.ok scCap (fun vs H Q E h => ?_) (fun cdv A outer s H vs Q E hr h => ?_)
  · obtain ⟨n, rfl, _⟩ := h
    rfl
  · obtain ⟨n, rfl, hn, k⟩ := h
    refine ⟨_, pss_cons (ps_expr (pe_call G1 hr rfl D1.g D1.F.kp D1.b .nil pass0 (pa_cons (pv 0) pa_nil))) (pss_one (ps_ret (pe_op op_fdiv (pe_op op_mul pe_int (pv 0)) pe_int))), ?_⟩
    refine ⟨_, rfl, _, rfl, hn, ?_⟩
    exact ⟨_, rfl, _, _, rfl, rfl, .inl ⟨by decide, by decide⟩, _, _, rfl, rfl, ⟨by decide, by decide⟩, k⟩
/-! path -/
def p5 : List Stmt := (defBody sPath).take 5
theorem scPath : Pth.PSc (defScope sPath) := ⟨⟨rfl, rfl, rfl, by decide +kernel, rfl, by decide +kernel, by decide +kernel⟩, rfl, rfl, rfl, rfl, rfl, rfl, rfl, rfl⟩
theorem ok_path {f f1 f2 f3 : Addr} {fd fd1 fd2 fd3 : FuncData} {tsh : Tok} (D : Df K mg "path" "path" sPath ["code", "size", "many"] f fd) (D1 : Df K mg "need_code" "need_code" sNeedCode ["thing"] f1 fd1) (G1 : FnOk P w K mg base CX0 4 f1 fd1 ["thing"] spNeedCode)
    (D2 : Df K mg "_need_size" "_need_size" sNeedSize ["size"] f2 fd2) (G2 : FnOk P w K mg base CX0 3 f2 fd2 ["size"] spNeedSize) (D3 : Df K mg "is_count" "is_count" sCount ["thing"] f3 fd3) (G3 : FnOk P w K mg base CX0 2 f3 fd3 ["thing"] spCount)
    (msh : mg "PUSH_SHARE" = some (.int 32 tsh)) (mra : mg "range" = none) : Pth.PathDef P w K mg base 5 f fd := by
  intro code size many ok A outer s H args us hr e0 hb r
  obtain ⟨oc, od, kV, doc, pm, an, cdv, ct, osl, rfl, lk, hcd⟩ := D.F.ex
  obtain ⟨c0, c1, hs, m0, m1⟩ := ok
  have hp := sizes_pos hs
  refine Pth.path_call (l5 := p5) (k := 4) lk hcd scPath msh mra m0 m1 (by omega) (fun A outer s H pn hr => ?_) hr e0 hb r
  refine ⟨_, PSs.nox (pss_cons (ps_expr (pe_call G1 hr rfl D1.g D1.F.kp D1.b .nil pass0 (pa_cons (pv 0) pa_nil))) (pss_cons (ps_expr (pe_call G2 (hr.mono (by decide)) rfl D2.g D2.F.kp D2.b .nil pass0 (pa_cons (pv 1) pa_nil)))
    (pss_cons (ps_if (pt_not (pt_val (pe_call G3 (hr.mono (by decide)) rfl D3.g D3.F.kp D3.b .nil pass0 (pa_cons (pv 2) pa_nil)))) (pss_one ps_never) pss_nil)
    (pss_cons (ps_set (i := 3) scPath.S.nd rfl (Or.inl rfl) (pe_op op_modN (pv 0) (pv 1))) (pss_one (ps_set (i := 4) scPath.S.nd rfl (Or.inl rfl) (pv 0))))))), ?_⟩
  refine ⟨_, rfl, _, rfl, c0, c1, ?_⟩
  refine ⟨_, rfl, _, rfl, hs, ?_⟩
  refine ⟨_, rfl, _, rfl, true, by rw [decide_eq_true m0], iteF ?_⟩
  refine ⟨_, rfl, _, rfl, _, _, rfl, rfl, (by show size ≠ 0; omega), ?_⟩
  exact ⟨_, rfl, rfl, rfl⟩
end
end K14
set_option Elab.async false
set_option linter.all false
set_option maxRecDepth 100000
namespace K14
open PySem L2
/-! ### SlotTable -/
abbrev cTab : Stmt := top 28
abbrev sInit : Stmt := inClass cTab 0
abbrev sSz : Stmt := inClass cTab 2
abbrev sVal : Stmt := inClass cTab 3
abbrev sNS : Stmt := inClass cTab 4
abbrev sCnt : Stmt := inClass cTab 6
abbrev sPlace : Stmt := inClass cTab 8
abbrev sPF : Stmt := inClass cTab 9
abbrev sErase : Stmt := inClass cTab 10
abbrev sTrail : Stmt := inClass cTab 11
abbrev sSlotOf : Stmt := inClass cTab 12
/-- a table stands at p, its row at l -/
structure TabAt (C : Addr) (H : Hp) (p l : Addr) (xs : List Int) : Prop where
  ob : ∃ dx, H p = some (.ins C dx [("_slots", .ref l)])
  ls : H l = some (.lst (xs.map V.int))
/-- what is asked of the class as the top has made it -/
structure TT (K : PySem.W.Frag) (mg : Str → Option Value) (C pz g : Addr) : Prop where
  cl : Cls K C
  nS : NoAttr K C "_slots"
  mgC : mg "SlotTable" = some (.ref C)
  pr : PropOf K C "size" pz g
  em : ∃ t, mg "EMPTY" = some (.int (-1) t)
  ho : ∃ t, mg "HOLE" = some (.int (-2) t)
  ex : ∃ t, mg "EXTRA" = some (.int 6 t)
theorem ixN_n {n j : Nat} (hj : j < n) : ixN n (j : Int) = some j := by
  unfold ixN
  rw [if_pos (by omega), if_pos (by omega)]
  simp
theorem iteNo {b : Bool} {p q : Prop} (h : b = false) (k : q) : if b = true then p else q := by
  subst h
  exact k
theorem iteYes {b : Bool} {p q : Prop} (h : b = true) (k : p) : if b = true then p else q := by
  subst h
  exact k
section
variable {P : Program} {w : World} {K : PySem.W.Frag} {mg : Str → Option Value} {base : Heap}
theorem TabAt.same {C p l : Addr} {H H' : Hp} {xs : List Int} (h : TabAt C H p l xs) (s : ∀ b o, H b = some o → H' b = some o) : TabAt C H' p l xs := by
  obtain ⟨⟨dx, h1⟩, h2⟩ := h
  exact ⟨⟨dx, s _ _ h1⟩, s _ _ h2⟩
def spSz (C : Addr) : Sp := fun vs H Q _ => ∃ (p l : Addr) (xs : List Int), vs = [.ref p] ∧ TabAt C H p l xs ∧ Q (.int (xs.length : Nat)) H
theorem scSz : FnScope ["self"] ["self"] (defScope sSz) := ⟨rfl, rfl, rfl, by decide +kernel, rfl, by decide +kernel, by decide +kernel⟩
theorem ok_sz {f C pz : Addr} {fd : FuncData} (F : Fun K "size" "SlotTable.size" sSz f fd) (T : TT K mg C pz f) (B : Bl mg) : FnOk P w K mg base CX0 1 f fd ["self"] (spSz C) := by
  refine F.ok scSz (fun vs H Q E h => ?_) (fun cdv A outer s H vs Q E hr h => ?_)
  · obtain ⟨p, l, xs, rfl, _⟩ := h
    rfl
  · obtain ⟨p, l, xs, rfl, ⟨⟨dx, hp⟩, hl⟩, k⟩ := h
    refine ⟨_, pss_one (ps_ret (pe_callB call_len_seq (by rfl) B.len PySem.boot_len (pa_cons (pe_fld (pv 0) rfl) pa_nil))), ?_⟩
    refine ⟨_, rfl, p, C, dx, _, _, rfl, hp, T.cl, T.nS, rfl, l, _, rfl, .inl (SqL.of hl), ?_⟩
    rw [List.length_map]
    exact k
def spInit (C : Addr) : Sp := fun vs H Q _ => ∃ (p dx : Addr) (n : Int), vs = [.ref p, .int n] ∧ H p = some (.ins C dx []) ∧ n ∈ sizesI ∧ ∀ l0 l, H l0 = none → H l = none → l ≠ l0 → p ≠ l0 → p ≠ l → Q .non (upd (upd (upd H l0 (.lst [.int (-1)])) l (.lst ((List.replicate n.toNat (-1 : Int)).map V.int))) p (.ins C dx [("_slots", .ref l)]))
theorem scInit : FnScope ["self", "size"] ["self", "size"] (defScope sInit) := ⟨rfl, rfl, rfl, by decide +kernel, rfl, by decide +kernel, by decide +kernel⟩
theorem rep_one {a : V} : ∀ n : Nat, (List.replicate n [a]).flatten = List.replicate n a
  | 0 => rfl
  | n + 1 => by
    rw [List.replicate_succ, List.flatten_cons, rep_one n]
    rfl
theorem ok_init {f f2 C pz gz : Addr} {fd fd2 : FuncData} (F : Fun K "__init__" "SlotTable.__init__" sInit f fd) (T : TT K mg C pz gz) (D2 : Df K mg "_need_size" "_need_size" sNeedSize ["size"] f2 fd2) (G2 : FnOk P w K mg base CX0 3 f2 fd2 ["size"] spNeedSize) :
    FnOk P w K mg base CX0 4 f fd ["self", "size"] (spInit C) := by
  obtain ⟨te, em⟩ := T.em
  refine F.ok scInit (fun vs H Q E h => ?_) (fun cdv A outer s H vs Q E hr h => ?_)
  · obtain ⟨p, dx, n, rfl, _⟩ := h
    rfl
  · obtain ⟨p, dx, n, rfl, hp, hn, k⟩ := h
    have hz := sizes_pos hn
    refine ⟨_, pss_cons (ps_expr (pe_call G2 hr rfl D2.g D2.F.kp D2.b .nil pass0 (pa_cons (pv 1) pa_nil))) (pss_one (ps_fld (pv 0) (pe_op op_rep (pe_lst (pa_cons (pe_glob (v := .int (-1)) rfl em ⟨_, rfl⟩) pa_nil)) (pv 1)) rfl)), ?_⟩
    refine ⟨_, rfl, n, rfl, hn, ?_⟩
    refine ⟨by show 1 ≤ sizeLine; decide, fun l0 h0 => ?_⟩
    refine ⟨_, rfl, l0, n, [.int (-1)], rfl, rfl, upd_same, by omega, by omega, by
      show 1 * n.toNat ≤ sizeLine
      have : n.toNat ≤ 4096 := by omega
      exact Nat.le_trans (by omega) (show 4096 ≤ sizeLine by decide), fun l hl => ?_⟩
    have nl : l ≠ l0 := fun z => by
      rw [z, upd_same] at hl
      cases hl
    have hl0 : H l = none := by rwa [upd_ne nl] at hl
    have np0 := ne_of_none hp h0
    have np : p ≠ l := ne_of_none hp hl0
    refine ⟨_, rfl, p, C, dx, [], rfl, by rw [upd_ne np, upd_ne np0]; exact hp, T.cl, T.nS, (by show 0 < 1000; decide), ?_⟩
    rw [rep_one, ← List.map_replicate]
    exact k l0 l h0 hl0 nl np0 np

/-! slots as natural numbers -/
theorem sl_nat {size code : Nat} (h : 0 < size) : ∀ i, Pth.pu (code : Int) i = ((code / 32 ^ i : Nat) : Int) ∧ Pth.sl (size : Int) (code : Int) i = ((K12.slotAt size code i : Nat) : Int)
  | 0 => by
    refine ⟨?_, ?_⟩
    · show (code : Int) = _
      rw [Nat.pow_zero, Nat.div_one]
    · show (code : Int).fmod (size : Int) = ((code % size : Nat) : Int)
      rw [Int.fmod_eq_emod_of_nonneg _ (by omega)]
      rfl
  | i + 1 => by
    obtain ⟨h1, h2⟩ := sl_nat (code := code) h i
    have e : Pth.pu (code : Int) (i + 1) = ((code / 32 ^ (i + 1) : Nat) : Int) := by
      show (Pth.pu (code : Int) i).fdiv 32 = _
      rw [h1, Int.fdiv_eq_ediv_of_nonneg _ (by decide), Nat.pow_succ, ← Nat.div_div_eq_div_mul]
      rfl
    refine ⟨e, ?_⟩
    show (5 * Pth.sl (size : Int) (code : Int) i + Pth.pu (code : Int) (i + 1) + 1).fmod (size : Int) = (((5 * K12.slotAt size code i + code / 32 ^ (i + 1) + 1) % size : Nat) : Int)
    rw [e, h2, Int.fmod_eq_emod_of_nonneg _ (by omega), Int.natCast_emod]
    simp only [Int.natCast_add, Int.natCast_mul, Int.natCast_one]
    rfl
abbrev sA (size code i : Nat) : Nat := K12.slotAt size code i
theorem sA_lt {size : Nat} (h : 0 < size) (code i : Nat) : sA size code i < size := K12.slotAt_lt h code i
def goodSize (n : Nat) : Prop := (n : Int) ∈ sizesI
theorem goodSize.pos {n : Nat} (h : goodSize n) : 8 ≤ n ∧ n ≤ 4096 := by
  have := sizes_pos h
  omega
theorem pok {size code many : Nat} (h : goodSize size) (hc : code < 4294967296) (hm : many ≤ 5000) : Pth.POk (code : Int) (size : Int) (many : Int) := ⟨by omega, by omega, h, by omega, by omega⟩
def spNS (C : Addr) : Sp := fun vs H Q _ => ∃ (p l : Addr) (xs : List Int) (j : Nat), vs = [.ref p, .int (j : Int)] ∧ TabAt C H p l xs ∧ j < xs.length ∧ Q .non H
theorem scNS : FnScope ["self", "slot"] ["self", "slot"] (defScope sNS) := ⟨rfl, rfl, rfl, by decide +kernel, rfl, by decide +kernel, by decide +kernel⟩
theorem ok_ns {f f2 C pz gz : Addr} {fd fd2 fdz : FuncData} (F : Fun K "_need_slot" "SlotTable._need_slot" sNS f fd) (T : TT K mg C pz gz) (B : Bl mg) (D2 : Df K mg "is_between" "is_between" sBetween ["thing", "low", "high"] f2 fd2) (G2 : FnOk P w K mg base CX0 2 f2 fd2 ["thing", "low", "high"] spBetween)
    (bz : Binds K fdz ["self"] []) (Gz : FnOk P w K mg base CX0 1 gz fdz ["self"] (spSz C)) : FnOk P w K mg base CX0 3 f fd ["self", "slot"] (spNS C) := by
  refine F.ok scNS (fun vs H Q E h => ?_) (fun cdv A outer s H vs Q E hr h => ?_)
  · obtain ⟨p, l, xs, j, rfl, _⟩ := h
    rfl
  · obtain ⟨p, l, xs, j, rfl, t, hj, k⟩ := h
    obtain ⟨dx, hp⟩ := t.ob
    refine ⟨_, pss_one (ps_if (pt_not (pt_val (pe_call G2 hr rfl D2.g D2.F.kp D2.b .nil pass0 (pa_cons (pv 1) (pa_cons pe_int (pa_cons (pe_op op_sub (pe_prop (pv 0) T.cl T.pr Gz hr bz .nil pass0 rfl) pe_int) pa_nil)))))) (pss_one ps_never) pss_nil), ?_⟩
    refine ⟨_, rfl, _, rfl, p, dx, _, rfl, hp, p, l, xs, rfl, t, _, _, rfl, rfl, _, _, _, rfl, true, ?_, ?_⟩
    · rw [decide_eq_true (show (0 : Int) ≤ (j : Int) by omega), decide_eq_true (show (j : Int) ≤ (xs.length : Int) - 1 by omega)]
      rfl
    · exact iteF k
def spVal (C : Addr) : Sp := fun vs H Q _ => ∃ (p l : Addr) (xs : List Int) (j : Nat) (v : Int), vs = [.ref p, .int (j : Int)] ∧ TabAt C H p l xs ∧ xs[j]? = some v ∧ Q (.int v) H
theorem scVal : FnScope ["self", "slot"] ["self", "slot"] (defScope sVal) := ⟨rfl, rfl, rfl, by decide +kernel, rfl, by decide +kernel, by decide +kernel⟩
theorem ok_val {f f2 C pz gz : Addr} {fd fd2 : FuncData} (F : Fun K "value_at" "SlotTable.value_at" sVal f fd) (T : TT K mg C pz gz) (m2 : Meth K C "_need_slot" f2) (b2 : Binds K fd2 ["self", "slot"] []) (G2 : FnOk P w K mg base CX0 3 f2 fd2 ["self", "slot"] (spNS C)) :
    FnOk P w K mg base CX0 4 f fd ["self", "slot"] (spVal C) := by
  refine F.ok scVal (fun vs H Q E h => ?_) (fun cdv A outer s H vs Q E hr h => ?_)
  · obtain ⟨p, l, xs, j, v, rfl, _⟩ := h
    rfl
  · obtain ⟨p, l, xs, j, v, rfl, t, hj, k⟩ := h
    obtain ⟨dx, hp⟩ := t.ob
    refine ⟨_, pss_cons (ps_expr (pe_meth (pv 0) T.cl m2 G2 hr b2 .nil pass0 (pa_cons (pv 1) pa_nil))) (pss_one (ps_ret (pe_ix ix_list (pe_fld (pv 0) rfl) (pv 1) (fun _ _ => rfl)))), ?_⟩
    refine ⟨_, rfl, p, dx, _, rfl, hp, rfl, _, rfl, p, l, xs, j, rfl, t, (List.getElem?_eq_some_iff.mp hj).1, ?_⟩
    refine ⟨_, rfl, p, C, dx, _, _, rfl, hp, T.cl, T.nS, rfl, _, rfl, l, _, _, _, rfl, rfl, SqL.of t.ls, atI_nat (v := .int v) (by rw [List.getElem?_map, hj]; rfl), k⟩
def spCnt (C : Addr) : Sp := fun vs H Q _ => ∃ (p l : Addr) (xs : List Int) (n : Int), vs = [.ref p, .int n] ∧ TabAt C H p l xs ∧ -2 ≤ n ∧ Q (.int (xs.count n : Nat)) H
theorem scCnt : FnScope ["self", "value"] ["self", "value"] (defScope sCnt) := ⟨rfl, rfl, rfl, by decide +kernel, rfl, by decide +kernel, by decide +kernel⟩
theorem ok_cnt {f f1 C pz gz : Addr} {fd fd1 : FuncData} (F : Fun K "count_of" "SlotTable.count_of" sCnt f fd) (T : TT K mg C pz gz) (D1 : Df K mg "is_whole" "is_whole" sWhole ["thing"] f1 fd1) (G1 : FnOk P w K mg base CX0 1 f1 fd1 ["thing"] spWhole) :
    FnOk P w K mg base CX0 2 f fd ["self", "value"] (spCnt C) := by
  obtain ⟨th, ho⟩ := T.ho
  refine F.ok scCnt (fun vs H Q E h => ?_) (fun cdv A outer s H vs Q E hr h => ?_)
  · obtain ⟨p, l, xs, n, rfl, _⟩ := h
    rfl
  · obtain ⟨p, l, xs, n, rfl, t, hn, k⟩ := h
    obtain ⟨dx, hp⟩ := t.ob
    refine ⟨_, pss_cons (ps_if (PW.pt (pw_or (pt_not (pt_val (pe_call G1 hr rfl D1.g D1.F.kp D1.b .nil pass0 (pa_cons (pv 1) pa_nil)))) (pw_or1 (pt_cmpR op_lt (pv 1) (pe_glob (v := .int (-2)) rfl ho ⟨_, rfl⟩) (nomark _))))) (pss_one ps_never) pss_nil)
      (pss_one (ps_ret (pe_bm PySem.F.plainAttrs_list PySem.F.slot_list_count PySem.F.type_list_count mt_lcount (pe_fld (pv 0) rfl) (pa_cons (pv 1) pa_nil)))), ?_⟩
    refine ⟨_, rfl, n, rfl, true, rfl, iteF ⟨_, rfl, _, _, rfl, rfl, _, rfl, ?_⟩⟩
    refine iteNo (decide_eq_false (by omega)) ?_
    exact ⟨_, rfl, p, C, dx, _, _, rfl, hp, T.cl, T.nS, rfl, .inl ⟨rfl, _, SqL.of t.ls⟩, _, rfl, l, xs, n, rfl, rfl, SqL.of t.ls, k⟩
/-- the j-th slot of the code's path is free, those ahead are not -/
structure FreeAt (xs : List Int) (c j : Nat) : Prop where
  lt : j < xs.length + 6
  free : ∃ v, xs[sA xs.length c j]? = some v ∧ v < 0
  full : ∀ i, i < j → ∃ v, xs[sA xs.length c i]? = some v ∧ 0 ≤ v
def spPF (C : Addr) : Sp := fun vs H Q _ => ∃ (p l : Addr) (xs : List Int) (c j : Nat), vs = [.ref p, .int (c : Int)] ∧ TabAt C H p l xs ∧ c < 4294967296 ∧ goodSize xs.length ∧ FreeAt xs c j ∧ Q (.int (sA xs.length c j : Nat)) H
theorem scPF : FnScope ["self", "code", "reach", "slot"] ["self", "code"] (defScope sPF) := ⟨rfl, rfl, rfl, by decide +kernel, rfl, by decide +kernel, by decide +kernel⟩
theorem ok_pf {f f5 C pz gz : Addr} {fd fd5 fdz : FuncData} (F : Fun K "_place_for" "SlotTable._place_for" sPF f fd) (T : TT K mg C pz gz) (D5 : Df K mg "path" "path" sPath ["code", "size", "many"] f5 fd5) (G5 : Pth.PathDef P w K mg base 5 f5 fd5)
    (bz : Binds K fdz ["self"] []) (Gz : FnOk P w K mg base CX0 1 gz fdz ["self"] (spSz C)) : FnOk P w K mg base CX0 7 f fd ["self", "code"] (spPF C) := by
  obtain ⟨tx, ex⟩ := T.ex
  refine F.ok scPF (fun vs H Q E h => ?_) (fun cdv A outer s H vs Q E hr h => ?_)
  · obtain ⟨p, l, xs, c, j, rfl, _⟩ := h
    rfl
  · obtain ⟨p, l, xs, c, j, rfl, t, hc, hz, fa, k⟩ := h
    obtain ⟨dx, hp⟩ := t.ob
    have h8 := hz.pos
    refine ⟨_, pss_cons (ps_set (i := 2) scPF.nd rfl (Or.inl rfl) (pe_op op_add (pe_prop (pv 0) T.cl T.pr Gz (hr.mono (by decide)) bz .nil pass0 rfl) (pe_glob (v := .int 6) rfl ex ⟨_, rfl⟩)))
      (pss_cons (Pth.ps_forP G5 hr rfl D5.g D5.F.kp D5.b (pa_cons (pv 1) (pa_cons (pe_prop (pv 0) T.cl T.pr Gz (hr.mono (by decide)) bz .nil pass0 rfl) (pa_cons (pv 2) pa_nil))) PassesOwn.never rfl scPF.nd (ix := 3) rfl (Or.inl rfl)
        (pss_one (ps_if (pt_cmpR op_lt (pe_ix ix_list (pe_fld (pv 0) rfl) (pv 3) (fun _ _ => rfl)) pe_int (nomark _)) (pss_one (ps_ret (pv 3))) pss_nil))) (pss_one ps_never)), ?_⟩
    refine ⟨_, rfl, p, dx, _, rfl, hp, p, l, xs, rfl, t, _, _, rfl, rfl, ?_⟩
    refine ⟨_, rfl, _, rfl, p, dx, _, rfl, hp, p, l, xs, rfl, t, _, rfl, (c : Int), (xs.length : Int), ((xs.length + 6 : Nat) : Int), rfl, pok hz hc (by omega), fun n σ H' => (∃ v, σ = [some (.ref p), some (.int (c : Int)), some (.int ((xs.length + 6 : Nat) : Int)), v]) ∧ H' = H ∧ n ≤ j, ⟨⟨_, rfl⟩, rfl, Nat.zero_le _⟩, ?_, ?_⟩
    · rintro n σ H' hn ⟨⟨v, rfl⟩, rfl, hj⟩
      rw [(sl_nat (by omega) n).2]
      refine ⟨_, rfl, p, C, dx, _, _, rfl, hp, T.cl, T.nS, rfl, _, rfl, ?_⟩
      rcases Nat.lt_or_eq_of_le hj with hlt | rfl
      · obtain ⟨v, e, hv⟩ := fa.full n hlt
        refine ⟨l, _, _, _, rfl, rfl, SqL.of t.ls, atI_nat (v := .int v) (by rw [List.getElem?_map, e]; rfl), _, _, rfl, rfl, _, rfl, ?_⟩
        exact iteNo (decide_eq_false (by omega)) ⟨⟨_, rfl⟩, rfl, hlt⟩
      · obtain ⟨v, e, hv⟩ := fa.free
        refine ⟨l, _, _, _, rfl, rfl, SqL.of t.ls, atI_nat (v := .int v) (by rw [List.getElem?_map, e]; rfl), _, _, rfl, rfl, _, rfl, ?_⟩
        exact iteYes (decide_eq_true hv) ⟨_, rfl, k⟩
    · rintro σ H' ⟨_, _, hj⟩
      have := fa.lt
      exact absurd hj (by show ¬ (((xs.length + 6 : Nat) : Int).toNat ≤ j); omega)
def spPlace (C : Addr) : Sp := fun vs H Q _ => ∃ (p l : Addr) (xs : List Int) (c j ix : Nat), vs = [.ref p, .int (c : Int), .int (ix : Int)] ∧ TabAt C H p l xs ∧ c < 4294967296 ∧ goodSize xs.length ∧ FreeAt xs c j ∧
  Q (.int (sA xs.length c j : Nat)) (upd H l (.lst ((xs.set (sA xs.length c j) (ix : Int)).map V.int)))
theorem scPlace : FnScope ["self", "code", "index", "slot"] ["self", "code", "index"] (defScope sPlace) := ⟨rfl, rfl, rfl, by decide +kernel, rfl, by decide +kernel, by decide +kernel⟩
theorem ok_place {f f1 f2 f3 C pz gz : Addr} {fd fd1 fd2 fd3 : FuncData} (F : Fun K "place" "SlotTable.place" sPlace f fd) (T : TT K mg C pz gz) (D1 : Df K mg "need_code" "need_code" sNeedCode ["thing"] f1 fd1) (G1 : FnOk P w K mg base CX0 4 f1 fd1 ["thing"] spNeedCode)
    (D2 : Df K mg "_need_index" "_need_index" sNeedIndex ["index"] f2 fd2) (G2 : FnOk P w K mg base CX0 3 f2 fd2 ["index"] spNeedIndex) (m3 : Meth K C "_place_for" f3) (b3 : Binds K fd3 ["self", "code"] []) (G3 : FnOk P w K mg base CX0 7 f3 fd3 ["self", "code"] (spPF C)) :
    FnOk P w K mg base CX0 8 f fd ["self", "code", "index"] (spPlace C) := by
  refine F.ok scPlace (fun vs H Q E h => ?_) (fun cdv A outer s H vs Q E hr h => ?_)
  · obtain ⟨p, l, xs, c, j, ix, rfl, _⟩ := h
    rfl
  · obtain ⟨p, l, xs, c, j, ix, rfl, t, hc, hz, fa, k⟩ := h
    obtain ⟨dx, hp⟩ := t.ob
    have h8 := hz.pos
    refine ⟨_, pss_cons (ps_expr (pe_call G1 (hr.mono (by decide)) rfl D1.g D1.F.kp D1.b .nil pass0 (pa_cons (pv 1) pa_nil))) (pss_cons (ps_expr (pe_call G2 (hr.mono (by decide)) rfl D2.g D2.F.kp D2.b .nil pass0 (pa_cons (pv 2) pa_nil)))
      (pss_cons (ps_set (i := 3) scPlace.nd rfl (Or.inl rfl) (pe_meth (pv 0) T.cl m3 G3 hr b3 .nil pass0 (pa_cons (pv 1) pa_nil)))
      (pss_cons (ps_asg (pv 2) (pg_sub (pe_fld (pv 0) rfl) (pv 3) set_list (fun _ => rfl))) (pss_one (ps_ret (pv 3)))))), ?_⟩
    refine ⟨_, rfl, (c : Int), rfl, by omega, by omega, ?_⟩
    refine ⟨_, rfl, (ix : Int), rfl, by omega, ?_⟩
    refine ⟨_, rfl, p, dx, _, rfl, hp, rfl, _, rfl, p, l, xs, c, j, rfl, t, hc, hz, fa, ?_⟩
    refine ⟨_, rfl, _, rfl, p, C, dx, _, _, rfl, hp, T.cl, T.nS, rfl, _, rfl, l, _, _, _, rfl, rfl, t.ls, ixN_n (j := sA xs.length c j) (by rw [List.length_map]; exact sA_lt (by omega) c j), ?_⟩
    refine ⟨_, rfl, ?_⟩
    rw [List.map_set] at k
    exact k
def spErase (C : Addr) : Sp := fun vs H Q _ => ∃ (p l : Addr) (xs : List Int) (j : Nat) (v : Int), vs = [.ref p, .int (j : Int)] ∧ TabAt C H p l xs ∧ xs[j]? = some v ∧ 0 ≤ v ∧ Q (.int v) (upd H l (.lst ((xs.set j (-2)).map V.int)))
theorem scErase : FnScope ["self", "slot", "index"] ["self", "slot"] (defScope sErase) := ⟨rfl, rfl, rfl, by decide +kernel, rfl, by decide +kernel, by decide +kernel⟩
theorem ok_erase {f f1 C pz gz : Addr} {fd fd1 : FuncData} (F : Fun K "erase" "SlotTable.erase" sErase f fd) (T : TT K mg C pz gz) (m1 : Meth K C "value_at" f1) (b1 : Binds K fd1 ["self", "slot"] []) (G1 : FnOk P w K mg base CX0 4 f1 fd1 ["self", "slot"] (spVal C)) :
    FnOk P w K mg base CX0 5 f fd ["self", "slot"] (spErase C) := by
  obtain ⟨th, ho⟩ := T.ho
  refine F.ok scErase (fun vs H Q E h => ?_) (fun cdv A outer s H vs Q E hr h => ?_)
  · obtain ⟨p, l, xs, j, v, rfl, _⟩ := h
    rfl
  · obtain ⟨p, l, xs, j, v, rfl, t, hj, hv, k⟩ := h
    obtain ⟨dx, hp⟩ := t.ob
    refine ⟨_, pss_cons (ps_set (i := 2) scErase.nd rfl (Or.inl rfl) (pe_meth (pv 0) T.cl m1 G1 hr b1 .nil pass0 (pa_cons (pv 1) pa_nil)))
      (pss_cons (ps_if (pt_cmpR op_lt (pv 2) pe_int (nomark _)) (pss_one ps_never) pss_nil)
      (pss_cons (ps_asg (pe_glob (v := .int (-2)) rfl ho ⟨_, rfl⟩) (pg_sub (pe_fld (pv 0) rfl) (pv 1) set_list (fun _ => rfl))) (pss_one (ps_ret (pv 2))))), ?_⟩
    refine ⟨_, rfl, p, dx, _, rfl, hp, rfl, _, rfl, p, l, xs, j, v, rfl, t, hj, ?_⟩
    refine ⟨_, rfl, _, _, rfl, rfl, _, rfl, iteNo (decide_eq_false (by omega)) ?_⟩
    refine ⟨_, rfl, p, C, dx, _, _, rfl, hp, T.cl, T.nS, rfl, _, rfl, l, _, _, _, rfl, rfl, t.ls, ixN_n (j := j) (by rw [List.length_map]; exact (List.getElem?_eq_some_iff.mp hj).1), ?_⟩
    refine ⟨_, rfl, ?_⟩
    rw [List.map_set] at k
    exact k
/-- the trail from the i-th slot on, m slots left -/
def goT (xs : List Int) (c : Nat) : Nat → Nat → List Nat
  | 0, _ => []
  | m + 1, i => sA xs.length c i :: (if xs[sA xs.length c i]? = some (-1) then [] else goT xs c m (i + 1))
def trailOf (xs : List Int) (c : Nat) : List Nat := goT xs c (xs.length + 6) 0
theorem goT_len (xs : List Int) (c : Nat) : ∀ m i, (goT xs c m i).length ≤ m
  | 0, _ => Nat.le_refl _
  | m + 1, i => by
    unfold goT
    split
    · simp
    · have := goT_len xs c m (i + 1)
      rw [List.length_cons]
      omega
theorem goT_lt {xs : List Int} (h : 0 < xs.length) (c : Nat) : ∀ m i, ∀ x ∈ goT xs c m i, x < xs.length
  | 0, _, x, hx => by cases hx
  | m + 1, i, x, hx => by
    unfold goT at hx
    rcases List.mem_cons.mp hx with rfl | hx
    · exact sA_lt h c i
    · split at hx
      · cases hx
      · exact goT_lt h c m (i + 1) x hx
abbrev nV (x : Nat) : V := .int (x : Int)
def spTrail (C : Addr) : Sp := fun vs H Q _ => ∃ (p l : Addr) (xs : List Int) (c : Nat), vs = [.ref p, .int (c : Int)] ∧ TabAt C H p l xs ∧ c < 4294967296 ∧ goodSize xs.length ∧ ∀ t, H t = none → Q (.ref t) (upd H t (.lst ((trailOf xs c).map nV)))
theorem scTrail : FnScope ["self", "code", "reach", "slots", "slot"] ["self", "code"] (defScope sTrail) := ⟨rfl, rfl, rfl, by decide +kernel, rfl, by decide +kernel, by decide +kernel⟩
theorem upd_upd {H : Hp} {a : Addr} {x y : HO} : upd (upd H a x) a y = upd H a y := by
  funext b
  unfold upd
  split <;> rfl
theorem ok_trail {f f5 C pz gz : Addr} {fd fd5 fdz : FuncData} (F : Fun K "trail" "SlotTable.trail" sTrail f fd) (T : TT K mg C pz gz) (D5 : Df K mg "path" "path" sPath ["code", "size", "many"] f5 fd5) (G5 : Pth.PathDef P w K mg base 5 f5 fd5)
    (bz : Binds K fdz ["self"] []) (Gz : FnOk P w K mg base CX0 1 gz fdz ["self"] (spSz C)) : FnOk P w K mg base CX0 7 f fd ["self", "code"] (spTrail C) := by
  obtain ⟨tx, ex⟩ := T.ex
  obtain ⟨te, em⟩ := T.em
  refine F.ok scTrail (fun vs H Q E h => ?_) (fun cdv A outer s H vs Q E hr h => ?_)
  · obtain ⟨p, l, xs, c, rfl, _⟩ := h
    rfl
  · obtain ⟨p, l, xs, c, rfl, t, hc, hz, k⟩ := h
    obtain ⟨dx, hp⟩ := t.ob
    have h8 := hz.pos
    refine ⟨_, pss_cons (ps_set (i := 2) scTrail.nd rfl (Or.inl rfl) (pe_op op_add (pe_prop (pv 0) T.cl T.pr Gz (hr.mono (by decide)) bz .nil pass0 rfl) (pe_glob (v := .int 6) rfl ex ⟨_, rfl⟩)))
      (pss_cons (ps_set (i := 3) scTrail.nd rfl (Or.inl rfl) (pe_lst pa_nil))
      (pss_cons (Pth.ps_forP G5 hr rfl D5.g D5.F.kp D5.b (pa_cons (pv 1) (pa_cons (pe_prop (pv 0) T.cl T.pr Gz (hr.mono (by decide)) bz .nil pass0 rfl) (pa_cons (pv 2) pa_nil))) PassesOwn.never rfl scTrail.nd (ix := 4) rfl (Or.inl rfl)
        (pss_cons (ps_expr (pe_bm PySem.F.plainAttrs_list PySem.F.slot_list_append PySem.F.type_list_append mt_append (pv 3) (pa_cons (pv 4) pa_nil)))
          (pss_one (ps_if (pt_cmpR op_eq (pe_ix ix_list (pe_fld (pv 0) rfl) (pv 4) (fun _ _ => rfl)) (pe_glob (v := .int (-1)) rfl em ⟨_, rfl⟩) (nomark _)) (pss_one ps_break) pss_nil)))) (pss_one (ps_ret (pv 3))))), ?_⟩
    refine ⟨_, rfl, p, dx, _, rfl, hp, p, l, xs, rfl, t, _, _, rfl, rfl, ?_⟩
    refine ⟨Nat.zero_le _, fun a ha => ?_⟩
    have npa := ne_of_none hp ha
    have nla := ne_of_none t.ls ha
    have hp' : ∀ o, upd H a o p = some (.ins C dx [("_slots", .ref l)]) := fun o => by rw [upd_ne npa]; exact hp
    have t' : ∀ o, TabAt C (upd H a o) p l xs := fun o => ⟨⟨dx, hp' o⟩, by rw [upd_ne nla]; exact t.ls⟩
    refine ⟨_, rfl, _, rfl, p, dx, _, rfl, hp' _, p, l, xs, rfl, t' _, _, rfl, (c : Int), (xs.length : Int), ((xs.length + 6 : Nat) : Int), rfl, pok hz hc (by omega),
      fun n σ H' => (∃ v, σ = [some (.ref p), some (.int (c : Int)), some (.int ((xs.length + 6 : Nat) : Int)), some (.ref a), v]) ∧ ∃ acc : List Nat, acc.length = n ∧ H' = upd H a (.lst (acc.map nV)) ∧ acc ++ goT xs c (xs.length + 6 - n) n = trailOf xs c, ⟨⟨_, rfl⟩, [], rfl, rfl, rfl⟩, ?_, ?_⟩
    · rintro n σ H' hn ⟨⟨v, rfl⟩, acc, hl, rfl, ht⟩
      have hn' : n < xs.length + 6 := by
        have : (((xs.length + 6 : Nat) : Int)).toNat = xs.length + 6 := by omega
        omega
      rw [(sl_nat (by omega) n).2]
      refine ⟨_, rfl, .inl ⟨rfl, _, SqL.of upd_same⟩, _, rfl, a, _, _, rfl, rfl, upd_same, by rw [List.length_map]; exact Nat.lt_of_lt_of_le (show acc.length < 5000 by omega) (by decide), ?_⟩
      rw [upd_upd]
      obtain ⟨y, hy⟩ : ∃ y, xs[sA xs.length c n]? = some y := ⟨_, List.getElem?_eq_getElem (sA_lt (by omega) c n)⟩
      have e5 : xs.length + 6 - n = (xs.length + 6 - (n + 1)) + 1 := by omega
      rw [e5] at ht
      unfold goT at ht
      refine ⟨_, rfl, p, C, dx, _, _, rfl, hp' _, T.cl, T.nS, rfl, _, rfl, l, _, _, _, rfl, rfl, SqL.of (t' _).ls, atI_nat (v := .int y) (by rw [List.getElem?_map, hy]; rfl), rfl, _, rfl, ?_⟩
      have em : acc.map nV ++ [V.int (K12.slotAt xs.length c n : Nat)] = (acc ++ [sA xs.length c n]).map nV := by rw [List.map_append]; rfl
      refine ite2 (fun e => ?_) (fun e => ?_)
      · have ey : y = -1 := by simpa using of_decide_eq_true e
        rw [hy, ey, if_pos rfl] at ht
        refine ⟨.ref a, rfl, ?_⟩
        rw [em, ht]
        exact k a ha
      · have ey : ¬ y = -1 := fun z => by
          subst z
          exact Bool.false_ne_true ((Bool.eq_false_iff.mpr e).symm.trans (decide_eq_true rfl))
        rw [hy, if_neg (fun z => ey (Option.some.inj z))] at ht
        refine ⟨⟨_, rfl⟩, acc ++ [sA xs.length c n], by rw [List.length_append, hl]; rfl, by rw [em], ?_⟩
        rw [List.append_assoc]
        exact ht
    · rintro σ H' ⟨⟨v, rfl⟩, acc, hl, rfl, ht⟩
      refine ⟨_, rfl, ?_⟩
      have e6 : (((xs.length + 6 : Nat) : Int)).toNat = xs.length + 6 := by omega
      rw [e6, Nat.sub_self] at ht
      rw [show acc = trailOf xs c from (List.append_nil acc).symm.trans ht]
      exact k a ha
/-- what slot_of answers -/
def slotRes (xs : List Int) (c ix : Nat) : V := match (trailOf xs c).find? (fun s => decide (xs[s]? = some (ix : Int))) with
  | some s => nV s
  | none => .non
def spSlotOf (C : Addr) : Sp := fun vs H Q _ => ∃ (p l : Addr) (xs : List Int) (c ix : Nat), vs = [.ref p, .int (c : Int), .int (ix : Int)] ∧ TabAt C H p l xs ∧ c < 4294967296 ∧ goodSize xs.length ∧
  ∀ t, H t = none → Q (slotRes xs c ix) (upd H t (.lst ((trailOf xs c).map nV)))
theorem scSlotOf : FnScope ["self", "code", "index", "slot"] ["self", "code", "index"] (defScope sSlotOf) := ⟨rfl, rfl, rfl, by decide +kernel, rfl, by decide +kernel, by decide +kernel⟩
theorem ok_slotOf {f f1 f2 f3 C pz gz : Addr} {fd fd1 fd2 fd3 : FuncData} (F : Fun K "slot_of" "SlotTable.slot_of" sSlotOf f fd) (T : TT K mg C pz gz) (D1 : Df K mg "need_code" "need_code" sNeedCode ["thing"] f1 fd1) (G1 : FnOk P w K mg base CX0 4 f1 fd1 ["thing"] spNeedCode)
    (D2 : Df K mg "_need_index" "_need_index" sNeedIndex ["index"] f2 fd2) (G2 : FnOk P w K mg base CX0 3 f2 fd2 ["index"] spNeedIndex) (m3 : Meth K C "trail" f3) (b3 : Binds K fd3 ["self", "code"] []) (G3 : FnOk P w K mg base CX0 7 f3 fd3 ["self", "code"] (spTrail C)) :
    FnOk P w K mg base CX0 8 f fd ["self", "code", "index"] (spSlotOf C) := by
  refine F.ok scSlotOf (fun vs H Q E h => ?_) (fun cdv A outer s H vs Q E hr h => ?_)
  · obtain ⟨p, l, xs, c, ix, rfl, _⟩ := h
    rfl
  · obtain ⟨p, l, xs, c, ix, rfl, t, hc, hz, k⟩ := h
    obtain ⟨dx, hp⟩ := t.ob
    have h8 := hz.pos
    refine ⟨_, pss_cons (ps_expr (pe_call G1 (hr.mono (by decide)) rfl D1.g D1.F.kp D1.b .nil pass0 (pa_cons (pv 1) pa_nil))) (pss_cons (ps_expr (pe_call G2 (hr.mono (by decide)) rfl D2.g D2.F.kp D2.b .nil pass0 (pa_cons (pv 2) pa_nil)))
      (pss_cons (ps_for PassesOwn.never rfl (pi_list (pe_meth (pv 0) T.cl m3 G3 hr b3 .nil pass0 (pa_cons (pv 1) pa_nil))) (pg_name (i := 3) scSlotOf.nd rfl (Or.inl rfl))
        (pss_one (ps_if (pt_cmpR op_eq (pe_ix ix_list (pe_fld (pv 0) rfl) (pv 3) (fun _ _ => rfl)) (pv 2) (nomark _)) (pss_one (ps_ret (pv 3))) pss_nil)))
      (pss_one (ps_ret pe_non)))), ?_⟩
    refine ⟨_, rfl, (c : Int), rfl, by omega, by omega, ?_⟩
    refine ⟨_, rfl, (ix : Int), rfl, by omega, ?_⟩
    refine ⟨_, rfl, p, dx, _, rfl, hp, rfl, _, rfl, p, l, xs, c, rfl, t, hc, hz, fun a ha => ?_⟩
    have npa := ne_of_none hp ha
    have nla := ne_of_none t.ls ha
    have t' : ∀ o, TabAt C (upd H a o) p l xs := fun o => ⟨⟨dx, by rw [upd_ne npa]; exact hp⟩, by rw [upd_ne nla]; exact t.ls⟩
    have hp' : ∀ o, upd H a o p = some (.ins C dx [("_slots", .ref l)]) := fun o => by rw [upd_ne npa]; exact hp
    refine ⟨a, rfl, ⟨_, SqL.of upd_same⟩, for_list (K := K) (a := a) (xs := (trailOf xs c).map nV) (fun i σ H' => (∃ v, σ = [some (.ref p), some (.int (c : Int)), some (.int (ix : Int)), v]) ∧ H' = upd H a (.lst ((trailOf xs c).map nV)) ∧
      ((trailOf xs c).drop i).find? (fun s => decide (xs[s]? = some (ix : Int))) = (trailOf xs c).find? (fun s => decide (xs[s]? = some (ix : Int)))) ⟨⟨_, rfl⟩, rfl, rfl⟩ (fun i σ H' _ ⟨_, e, _⟩ => by subst e; exact SqL.of upd_same) ?_ ?_⟩
    · rintro i y σ H' hi ⟨⟨v, rfl⟩, rfl, hf⟩
      rw [List.getElem?_map] at hi
      obtain ⟨s', hs, rfl⟩ := Option.map_eq_some_iff.mp hi
      have hsl : s' < xs.length := goT_lt (by omega) c _ _ s' (List.mem_of_getElem? hs)
      obtain ⟨y, hy⟩ : ∃ y, xs[s']? = some y := ⟨_, List.getElem?_eq_getElem hsl⟩
      have hd : (trailOf xs c).drop i = s' :: (trailOf xs c).drop (i + 1) := by
        obtain ⟨h1, h2⟩ := List.getElem?_eq_some_iff.mp hs
        rw [← h2, List.drop_eq_getElem_cons h1]
      rw [hd] at hf
      refine ⟨_, rfl, p, C, dx, _, _, rfl, hp' _, T.cl, T.nS, rfl, _, rfl, l, _, _, _, rfl, rfl, SqL.of (t' _).ls, atI_nat (v := .int y) (by rw [List.getElem?_map, hy]; rfl), _, rfl, rfl, _, rfl, ?_⟩
      refine ite2 (fun e => ?_) (fun e => ?_)
      · have ey : y = (ix : Int) := by simpa using of_decide_eq_true e
        rw [List.find?_cons, hy, ey, decide_eq_true rfl] at hf
        refine ⟨_, rfl, ?_⟩
        have := k a ha
        unfold slotRes at this
        rw [← hf] at this
        exact this
      · have ey : ¬ y = (ix : Int) := fun z => by
          subst z
          exact Bool.false_ne_true ((Bool.eq_false_iff.mpr e).symm.trans (decide_eq_true rfl))
        rw [List.find?_cons, hy, decide_eq_false (fun z => ey (Option.some.inj z))] at hf
        exact ⟨⟨_, rfl⟩, rfl, hf⟩
    · rintro σ H' ⟨⟨v, rfl⟩, rfl, hf⟩
      rw [List.length_map, List.drop_length] at hf
      have := k a ha
      unfold slotRes at this
      rw [← hf] at this
      exact this
/-! first_slots -/
def spFirst : Sp := fun vs H Q _ => ∃ (c size many : Nat), vs = [.int (c : Int), .int (size : Int), .int (many : Int)] ∧ c < 4294967296 ∧ goodSize size ∧ many ≤ 5000 ∧ ∀ t, H t = none → Q (.ref t) (upd H t (.lst ((K12.first c size many).map nV)))
theorem scFirst : FnScope ["code", "size", "many"] ["code", "size", "many"] (defScope sFirst) := ⟨rfl, rfl, rfl, by decide +kernel, rfl, by decide +kernel, by decide +kernel⟩
theorem ok_first {f f5 : Addr} {fd fd5 : FuncData} (D : Df K mg "first_slots" "first_slots" sFirst ["code", "size", "many"] f fd) (B : Bl mg) (D5 : Df K mg "path" "path" sPath ["code", "size", "many"] f5 fd5) (G5 : Pth.PathDef P w K mg base 5 f5 fd5) :
    FnOk P w K mg base CX0 9 f fd ["code", "size", "many"] spFirst := by
  refine D.F.ok scFirst (fun vs H Q E h => ?_) (fun cdv A outer s H vs Q E hr h => ?_)
  · obtain ⟨c, z, m, rfl, _⟩ := h
    rfl
  · obtain ⟨c, z, m, rfl, hc, hz, hm, k⟩ := h
    have h8 := hz.pos
    refine ⟨_, pss_one (ps_ret (Pth.pe_listP G5 hr rfl D5.g D5.F.kp D5.b (pa_cons (pv 0) (pa_cons (pv 1) (pa_cons (pv 2) pa_nil))) rfl B.list (by decide +kernel))), ?_⟩
    refine ⟨_, rfl, _, rfl, _, rfl, _, _, _, rfl, pok hz hc hm, Nat.le_trans (show m ≤ 5000 by omega) (by decide), fun t ht => ?_⟩
    have e : Pth.slots (z : Int) (c : Int) (m : Int) = (K12.first c z m).map nV := by
      unfold Pth.slots
      rw [K12.first_eq, List.map_map]
      refine List.map_congr_left fun i _ => ?_
      show V.int (Pth.sl z c i) = nV (K12.slotAt z c i)
      rw [(sl_nat (by omega) i).2]
    rw [e]
    exact k t ht
end
end K14
set_option Elab.async false
set_option linter.all false
set_option maxRecDepth 100000
namespace K14
open PySem L2
/-! ### lists of ints as data -/
theorem dp_ints {K : PySem.W.Frag} {H : Hp} : ∀ gs : List Int, DpAll K H (gs.map V.int) (gs.map PyData.int)
  | [] => .nil
  | g :: gs => .cons (.int g) (dp_ints gs)
theorem can_ints : ∀ gs : List Int, PyData.canLayAll0 (gs.map PyData.int) = true
  | [] => by simp [PyData.canLayAll0]
  | g :: gs => by
    rw [List.map_cons, PyData.canLayAll0, can_ints gs]
    simp [PyData.canLay0]
theorem depth_ints : ∀ gs : List Int, PyData.depthAll (gs.map PyData.int) = 0
  | [] => by simp [PyData.depthAll]
  | g :: gs => by
    rw [List.map_cons, PyData.depthAll, depth_ints gs]
    simp [PyData.depth]
theorem shaped_ints (gs : List Int) : SeqAt.shaped (.list (gs.map PyData.int)) = true := by
  unfold SeqAt.shaped
  rw [PyData.canLay0, can_ints, PyData.depth, depth_ints]
  rfl
theorem eqv_nil : ∀ gs : List Int, PyData.eqv (.list (gs.map PyData.int)) (.list []) = gs.isEmpty
  | [] => by simp [PyData.eqv, PyData.eqvAll]
  | g :: gs => by simp [PyData.eqv, PyData.eqvAll]
/-! ### the law's draws -/
abbrev kRun : Key := .inr "run"
abbrev kGreat : Key := .inr "great"
abbrev kTurn : Key := .inr "turn"
def drK (r t : Int) (g : Addr) : List (Key × V) := [(kRun, .int r), (kGreat, .ref g), (kTurn, .int t)]
theorem nRG : ¬ (kRun = kGreat) := by decide +kernel
theorem nRT : ¬ (kRun = kTurn) := by decide +kernel
theorem nGR : ¬ (kGreat = kRun) := by decide +kernel
theorem nTR : ¬ (kTurn = kRun) := by decide +kernel
theorem nGT : ¬ (kGreat = kTurn) := by decide +kernel
theorem dr_run {r t : Int} {g : Addr} : valV (drK r t g) kRun = some (.int r) := by
  unfold drK valV
  rw [List.find?_cons, decide_eq_true rfl]
  rfl
theorem dr_great {r t : Int} {g : Addr} : valV (drK r t g) kGreat = some (.ref g) := by
  unfold drK valV
  rw [List.find?_cons, decide_eq_false nRG, List.find?_cons, decide_eq_true rfl]
  rfl
theorem dr_turn {r t : Int} {g : Addr} : valV (drK r t g) kTurn = some (.int t) := by
  unfold drK valV
  rw [List.find?_cons, decide_eq_false nRT, List.find?_cons, decide_eq_false nGT, List.find?_cons, decide_eq_true rfl]
  rfl
theorem put_run {r t z : Int} {g : Addr} : putK (drK r t g) kRun (.int z) = drK z t g := by
  unfold drK putK
  rw [if_pos (by simp)]
  simp only [List.map_cons, List.map_nil, if_true, if_neg nGR, if_neg nTR]
theorem put_turn {r t z : Int} {g : Addr} : putK (drK r t g) kTurn (.int z) = drK r z g := by
  unfold drK putK
  rw [if_pos (by simp)]
  simp only [List.map_cons, List.map_nil, if_true, if_neg nRT, if_neg nGT]
theorem dget_run {H : Hp} {d g : Addr} {r t : Int} (h : H d = some (.dK (drK r t g))) : DGet H d (.str "run") (some (.int r)) := by
  have := DGet.k (k := kRun) h
  rw [dr_run] at this
  exact this
theorem dget_great {H : Hp} {d g : Addr} {r t : Int} (h : H d = some (.dK (drK r t g))) : DGet H d (.str "great") (some (.ref g)) := by
  have := DGet.k (k := kGreat) h
  rw [dr_great] at this
  exact this
theorem dget_turn {H : Hp} {d g : Addr} {r t : Int} (h : H d = some (.dK (drK r t g))) : DGet H d (.str "turn") (some (.int t)) := by
  have := DGet.k (k := kTurn) h
  rw [dr_turn] at this
  exact this
theorem dput_run {H : Hp} {d g : Addr} {r t z : Int} (h : H d = some (.dK (drK r t g))) : DPut H d (.str "run") (.int z) (upd H d (.dK (drK z t g))) := by
  have := DPut.k (k := kRun) (v := .int z) h (by show 3 < sizeLine; decide)
  rw [put_run] at this
  exact this
theorem dput_turn {H : Hp} {d g : Addr} {r t z : Int} (h : H d = some (.dK (drK r t g))) : DPut H d (.str "turn") (.int z) (upd H d (.dK (drK r z g))) := by
  have := DPut.k (k := kTurn) (v := .int z) h (by show 3 < sizeLine; decide)
  rw [put_turn] at this
  exact this
/-- a remainder as a natural number -/
theorem fmod_nat (i : Int) {m : Int} (h : 0 < m) : ∃ n : Nat, i.fmod m = (n : Int) ∧ (n : Int) < m := by
  rw [Int.fmod_eq_emod_of_nonneg _ (by omega)]
  have h1 := Int.emod_nonneg i (show m ≠ 0 by omega)
  have h2 := Int.emod_lt_of_pos i h
  exact ⟨(i % m).toNat, by omega, by omega⟩
/-- a draw stands at d, its great ones at g -/
structure Draw (H : Hp) (d g : Addr) (r t : Int) (gs : List Int) : Prop where
  dc : H d = some (.dK (drK r t g))
  gl : H g = some (.lst (gs.map V.int))
  r0 : 0 ≤ r
  r1 : r < 2305843009213693951
/-- what a draw leaves -/
def Kept (H H' : Hp) (d g : Addr) : Prop := ∀ b o, H b = some o → b ≠ d → b ≠ g → H' b = some o
def DrawE (H : Hp) (d g : Addr) : Prop := ∃ r t gs, Draw H d g r t gs
section
variable {P : Program} {w : World} {K : PySem.W.Frag} {mg : Str → Option Value} {base : Heap}
abbrev sBegun : Stmt := top 30
abbrev sNext : Stmt := top 31
abbrev sLCode : Stmt := top 32
abbrev sHeld : Stmt := top 33
abbrev sLaw : Stmt := top 34
def spNext : Sp := fun vs H Q _ => ∃ (d g : Addr) (b : Nat), vs = [.ref d, .int (b : Int)] ∧ DrawE H d g ∧ 0 < b ∧ b < 2 ^ 62 ∧ ∀ (n : Nat) (H' : Hp), n < b → DrawE H' d g → Kept H H' d g → Q (.int (n : Int)) H'
theorem scNext : FnScope ["draw", "below", "great", "at", "found", "run"] ["draw", "below"] (defScope sNext) := ⟨rfl, rfl, rfl, by decide +kernel, rfl, by decide +kernel, by decide +kernel⟩
theorem ok_next {f : Addr} {fd : FuncData} (D : Df K mg "_law_next" "_law_next" sNext ["draw", "below"] f fd) (B : Bl mg) : FnOk P w K mg base CX0 1 f fd ["draw", "below"] spNext := by
  refine D.F.ok scNext (fun vs H Q E h => ?_) (fun cdv A outer s H vs Q E hr h => ?_)
  · obtain ⟨d, g, b, rfl, _⟩ := h
    rfl
  · obtain ⟨d, g, b, rfl, ⟨r, t, gs, dr⟩, b0, b1, k⟩ := h
    have hu := hu_of hr
    have hu64 := hr.units
    refine ⟨_, pss_cons (ps_asg (pe_tup (pa_cons (pe_op op_add (pe_dget hu (pv 0) pe_str (fun _ _ => rfl)) pe_int) (pa_cons (pe_dget hu (pv 0) pe_str (fun _ _ => rfl)) pa_nil))) (pg_tup rfl (pgs_cons (pg_sub (pv 0) pe_str (set_dict hu)) (pgs_cons (pg_name (i := 2) scNext.nd rfl (Or.inl rfl)) pgs_nil))))
      (pss_cons (ps_set (i := 3) scNext.nd rfl (Or.inl rfl) (pe_op op_modN (pe_dget hu (pv 0) pe_str (fun _ _ => rfl)) (pe_callB (call_max2 rfl) (by rfl) B.max (by decide +kernel) (pa_cons pe_int (pa_cons (pe_callB call_len_seq (by rfl) B.len PySem.boot_len (pa_cons (pv 2) pa_nil)) pa_nil)))))
      (pss_cons (ps_if (PW.pt (pw_and (pt_cmpR (op_neD hu64) (pv 2) (pe_lst pa_nil) (nomark _)) (pw_and1 (pt_cmpR op_gt (pe_ix ix_list (pv 2) (pv 3) (fun _ _ => rfl)) pe_int (nomark _)))))
        (pss_cons (ps_set (i := 4) scNext.nd rfl (Or.inl rfl) (pe_op op_modN (pe_ix ix_list (pv 2) (pv 3) (fun _ _ => rfl)) (pv 1)))
          (pss_cons (ps_asg (pe_op op_fdivW (pe_ix ix_list (pv 2) (pv 3) (fun _ _ => rfl)) (pv 1)) (pg_sub (pv 2) (pv 3) set_list (fun _ => rfl))) (pss_one (ps_ret (pv 4))))) pss_nil)
      (pss_cons (ps_set (i := 5) scNext.nd rfl (Or.inl rfl) (pe_op op_add (pe_op op_add (pe_op op_mul (pe_dget hu (pv 0) pe_str (fun _ _ => rfl)) pe_int) (pe_op op_mul pe_int (pe_dget hu (pv 0) pe_str (fun _ _ => rfl)))) pe_int))
      (pss_cons (ps_dput hu (pv 0) pe_str (pe_op op_modN (pv 5) pe_int) rfl)
      (pss_one (ps_ret (pe_op op_modN (pe_op op_fdivN (pe_dget hu (pv 0) pe_str (fun _ _ => rfl)) pe_int) (pv 1)))))))), ?_⟩
    -- draw['turn'], great = (draw['turn'] + 1, draw['great'])
    refine ⟨_, rfl, d, _, rfl, dget_turn dr.dc, _, _, rfl, rfl, _, rfl, d, _, rfl, dget_great dr.dc, (by show 2 ≤ sizeLine; decide), fun T hT => ?_⟩
    have ndT := ne_of_none dr.dc hT
    have ngT := ne_of_none dr.gl hT
    have ngd : g ≠ d := ne_of dr.gl dr.dc (by intro z; cases z)
    refine ⟨T, _, rfl, SqT.of upd_same, rfl, _, _, rfl, _, rfl, d, _, rfl, dput_turn (r := r) (t := t) (g := g) (by rw [upd_ne ndT]; exact dr.dc), _, _, rfl, rfl, ?_⟩
    have dr1 : Draw (upd (upd H T (.tup [.int (t + 1), .ref g])) d (.dK (drK r (t + 1) g))) d g r (t + 1) gs := ⟨upd_same, by rw [upd_ne ngd, upd_ne ngT]; exact dr.gl, dr.r0, dr.r1⟩
    have kp1 : Kept H (upd (upd H T (.tup [.int (t + 1), .ref g])) d (.dK (drK r (t + 1) g))) d g := fun c o e h1 h2 => by rw [upd_ne h1, upd_ne (ne_of_none e hT)]; exact e
    generalize hH1 : upd (upd H T (.tup [.int (t + 1), .ref g])) d (.dK (drK r (t + 1) g)) = H1 at dr1 kp1
    -- at = draw['turn'] % max(1, len(great))
    obtain ⟨j, ej, hj⟩ := fmod_nat (t + 1) (m := if ((gs.map V.int).length : Int) > 1 then ((gs.map V.int).length : Int) else 1) (by split <;> omega)
    refine ⟨_, rfl, d, _, rfl, dget_turn dr1.dc, _, rfl, g, _, rfl, .inl (SqL.of dr1.gl), _, _, rfl, _, _, rfl, rfl, (by show (if ((gs.map V.int).length : Int) > 1 then ((gs.map V.int).length : Int) else 1) ≠ 0; split <;> omega), ?_⟩
    dsimp only
    rw [ej]
    -- great != [] and great[at] > 0
    refine ⟨_, rfl, by show 0 ≤ sizeLine; decide, fun e he => ?_⟩
    have nde := ne_of_none dr1.dc he
    have nge := ne_of_none dr1.gl he
    have dr2 : Draw (upd H1 e (.lst [])) d g r (t + 1) gs := ⟨by rw [upd_ne nde]; exact dr1.dc, by rw [upd_ne nge]; exact dr1.gl, dr1.r0, dr1.r1⟩
    have kp2 : Kept H (upd H1 e (.lst [])) d g := fun c o h h1 h2 => by
      have z := kp1 c o h h1 h2
      rw [upd_ne (ne_of_none z he)]
      exact z
    refine ⟨_, _, .lst (SqL.of dr2.gl) (dp_ints gs), .lst (SqL.of upd_same) .nil, shaped_ints gs, (by decide +kernel), ?_⟩
    rw [eqv_nil]
    generalize hH2 : upd H1 e (.lst []) = H2 at dr2 kp2
    refine ⟨_, rfl, ?_⟩
    by_cases hc : gs ≠ [] ∧ ∃ y, gs[j]? = some y ∧ 0 < y
    · obtain ⟨hne, y, hy, y0⟩ := hc
      have hjl : j < gs.length := (List.getElem?_eq_some_iff.mp hy).1
      refine iteYes (by cases gs with | nil => exact absurd rfl hne | cons a b => rfl) ?_
      have hat : atI (gs.map V.int) (j : Int) = some (.int y) := atI_nat (by rw [List.getElem?_map, hy]; rfl)
      refine ⟨_, rfl, _, rfl, g, _, _, _, rfl, rfl, SqL.of dr2.gl, hat, _, _, rfl, rfl, _, rfl, iteYes (decide_eq_true y0) ?_⟩
      obtain ⟨n, en, hn⟩ := fmod_nat y (m := (b : Int)) (by omega)
      refine ⟨_, rfl, _, rfl, g, _, _, _, rfl, rfl, SqL.of dr2.gl, hat, _, rfl, _, _, rfl, rfl, (by show (b : Int) ≠ 0; omega), ?_⟩
      refine ⟨_, rfl, _, rfl, g, _, _, _, rfl, rfl, SqL.of dr2.gl, hat, _, rfl, _, _, rfl, rfl, wide_div (b := 62) (by omega) (by omega) (by decide) (by decide), ?_⟩
      refine ⟨_, rfl, _, rfl, g, _, _, _, rfl, rfl, dr2.gl, ixN_n (j := j) (by rw [List.length_map]; exact hjl), ?_⟩
      refine ⟨_, rfl, ?_⟩
      dsimp only
      rw [en]
      refine k n _ (by omega) ⟨r, t + 1, gs.set j (y / b), by rw [upd_ne ngd.symm]; exact dr2.dc, by rw [upd_same, List.map_set], dr2.r0, dr2.r1⟩ fun c o h h1 h2 => ?_
      rw [upd_ne h2]
      exact kp2 c o h h1 h2
    · have go : ∀ (A B : Prop), B → (gs ≠ [] → (∃ y, gs[j]? = some y ∧ ¬ 0 < y) → A) → if (!gs.isEmpty) = true then A else B := by
        intro A B hB hA
        cases hgs : gs with
        | nil => exact hB
        | cons a b =>
          rw [← hgs]
          refine iteYes (by rw [hgs]; rfl) (hA (by rw [hgs]; exact List.cons_ne_nil _ _) ?_)
          have hl : j < gs.length := by
            rw [List.length_map] at hj
            rw [hgs] at hj ⊢
            rw [List.length_cons] at hj ⊢
            split at hj <;> omega
          exact ⟨_, List.getElem?_eq_getElem hl, fun z => hc ⟨by rw [hgs]; exact List.cons_ne_nil _ _, _, List.getElem?_eq_getElem hl, z⟩⟩
      refine go _ _ ?_ ?_
      · refine iteNo rfl ?_
        have r0 := dr2.r0
        have r1 := dr2.r1
        refine ⟨_, rfl, d, _, rfl, dget_run dr2.dc, _, _, rfl, rfl, .inl ⟨by omega, by omega⟩, _, rfl, d, _, rfl, dget_turn dr2.dc, _, _, rfl, rfl, .inl ⟨by decide, by decide⟩, _, _, rfl, rfl, _, _, rfl, rfl, ?_⟩
        refine ⟨_, rfl, _, _, rfl, rfl, (by show (2305843009213693951 : Int) ≠ 0; decide), _, rfl, d, _, rfl, dput_run dr2.dc, ?_⟩
        obtain ⟨z, ez, hz⟩ := fmod_nat (r * 6364136223846793 + 1442695040888963 * (t + 1) + 11) (m := 2305843009213693951) (by decide)
        rw [ez]
        refine ⟨_, rfl, d, _, rfl, dget_run upd_same, _, _, rfl, rfl, ⟨by decide, by decide⟩, _, rfl, _, _, rfl, rfl, (by show (b : Int) ≠ 0; omega), ?_⟩
        obtain ⟨n, en, hn⟩ := fmod_nat ((z : Int).fdiv 32749) (m := (b : Int)) (by omega)
        dsimp only
        rw [en]
        refine k n _ (by omega) ⟨z, t + 1, gs, upd_same, by rw [upd_ne ngd]; exact dr2.gl, by omega, hz⟩ fun c o h h1 h2 => ?_
        rw [upd_ne h1]
        exact kp2 c o h h1 h2
      · rintro hne ⟨y, hy, y0⟩
        have hat : atI (gs.map V.int) (j : Int) = some (.int y) := atI_nat (by rw [List.getElem?_map, hy]; rfl)
        refine ⟨_, rfl, _, rfl, g, _, _, _, rfl, rfl, SqL.of dr2.gl, hat, _, _, rfl, rfl, _, rfl, iteNo (decide_eq_false y0) ?_⟩
        have r0 := dr2.r0
        have r1 := dr2.r1
        refine ⟨_, rfl, d, _, rfl, dget_run dr2.dc, _, _, rfl, rfl, .inl ⟨by omega, by omega⟩, _, rfl, d, _, rfl, dget_turn dr2.dc, _, _, rfl, rfl, .inl ⟨by decide, by decide⟩, _, _, rfl, rfl, _, _, rfl, rfl, ?_⟩
        refine ⟨_, rfl, _, _, rfl, rfl, (by show (2305843009213693951 : Int) ≠ 0; decide), _, rfl, d, _, rfl, dput_run dr2.dc, ?_⟩
        obtain ⟨z, ez, hz⟩ := fmod_nat (r * 6364136223846793 + 1442695040888963 * (t + 1) + 11) (m := 2305843009213693951) (by decide)
        rw [ez]
        refine ⟨_, rfl, d, _, rfl, dget_run upd_same, _, _, rfl, rfl, ⟨by decide, by decide⟩, _, rfl, _, _, rfl, rfl, (by show (b : Int) ≠ 0; omega), ?_⟩
        obtain ⟨n, en, hn⟩ := fmod_nat ((z : Int).fdiv 32749) (m := (b : Int)) (by omega)
        dsimp only
        rw [en]
        refine k n _ (by omega) ⟨z, t + 1, gs, upd_same, by rw [upd_ne ngd]; exact dr2.gl, by omega, hz⟩ fun c o h h1 h2 => ?_
        rw [upd_ne h1]
        exact kp2 c o h h1 h2
end
end K14
set_option Elab.async false
set_option linter.all false
set_option maxRecDepth 100000
namespace K14
open PySem L2
/-- for i, x in enumerate(a list) -/
theorem for_enumL {K : PySem.W.Frag} {a : Addr} {xs : List V} {g : TG} {tb : TS} {D : Ends} {σ : L2.St} {H : Hp} (Pv : Nat → L2.St → Hp → Prop) (h0 : Pv 0 σ H) (hl : ∀ i σ H, i ≤ xs.length → Pv i σ H → SqL K H a xs)
    (hs : ∀ i x T σ H, xs[i]? = some x → Pv i σ H → H T = none → g (.ref T) σ (upd H T (.tup [.int (i : Nat), x])) fun σ2 H2 => tb { D with nx := Pv (i + 1), ct := Pv (i + 1), bk := D.nx } σ2 H2) (hd : ∀ σ H, Pv xs.length σ H → D.nx σ H) :
    ∃ W : Nat → Nat → L2.St → Hp → Prop, (∃ m, W 0 m σ H) ∧ ∀ i m σ H, W i m σ H →
      ((Ite K a).stop i H ∧ D.nx σ H) ∨ ((Ite K a).go i H ∧ ∃ N : L2.St → Hp → Prop, (∀ σ' H', N σ' H' → ∃ m', m' < m ∧ W (i + 1) m' σ' H') ∧ ∀ x H', (Ite K a).yld i H x H' → g x σ H' fun σ2 H2 => tb { D with nx := N, ct := N, bk := D.nx } σ2 H2) := by
  refine ⟨fun i m σ H => m = xs.length - i ∧ i ≤ xs.length ∧ Pv i σ H, ⟨xs.length, by simp, Nat.zero_le _, h0⟩, ?_⟩
  rintro i m σ H ⟨rfl, hi, p⟩
  have q := hl i σ H hi p
  by_cases hlt : i < xs.length
  · refine .inr ⟨⟨xs, xs[i], q, by simp [hlt]⟩, Pv (i + 1), fun σ' H' p' => ⟨xs.length - (i + 1), by omega, rfl, hlt, p'⟩, fun x H' y => ?_⟩
    obtain ⟨T, x, rfl, hT, rfl, hx⟩ := y
    exact hs i x T σ H (hx xs q) p hT
  · have e : i = xs.length := by omega
    subst e
    exact .inl ⟨⟨xs, q, Nat.le_refl _⟩, hd σ H p⟩
section
variable {P : Program} {w : World} {K : PySem.W.Frag} {mg : Str → Option Value} {base : Heap}
theorem merge_dr {r t : Int} {g : Addr} : mergeK [] (drK r t g) = drK r t g := by
  unfold mergeK drK
  simp only [List.foldl_cons, List.foldl_nil]
  have e1 : putK ([] : List (Key × V)) kRun (.int r) = [(kRun, .int r)] := rfl
  have e2 : putK [(kRun, V.int r)] kGreat (.ref g) = [(kRun, .int r), (kGreat, .ref g)] := by
    unfold putK
    rw [if_neg (by simp; decide +kernel)]
    rfl
  have e3 : putK [(kRun, V.int r), (kGreat, .ref g)] kTurn (.int t) = [(kRun, .int r), (kGreat, .ref g), (kTurn, .int t)] := by
    unfold putK
    rw [if_neg (by simp; decide +kernel)]
    rfl
  rw [e1, e2, e3]
theorem same_new {H : Hp} {a : Addr} {o : HO} (h : H a = none) : Same H (upd H a o) := fun b u e => by
  rw [upd_ne (ne_of_none e h)]
  exact e
theorem int_at {ns : List Int} {i : Nat} {x : V} (h : (ns.map V.int)[i]? = some x) : ∃ z, x = V.int z ∧ ns[i]? = some z := by
  rw [List.getElem?_map] at h
  obtain ⟨z, hz, rfl⟩ := Option.map_eq_some_iff.mp h
  exact ⟨z, rfl, hz⟩
def spBegun (K : PySem.W.Frag) : Sp := fun vs H Q _ => ∃ (a : Addr) (ns : List Int), vs = [.ref a] ∧ SqL K H a (ns.map V.int) ∧ ns.length ≤ 63 ∧ ∀ d g H', DrawE H' d g → Same H H' → H d = none → H g = none → Q (.ref d) H'
theorem scBegun : FnScope ["script", "run", "k", "cell"] ["script"] (defScope sBegun) := ⟨rfl, rfl, rfl, by decide +kernel, rfl, by decide +kernel, by decide +kernel⟩
theorem ok_begun {f : Addr} {fd : FuncData} (D : Df K mg "_law_begun" "_law_begun" sBegun ["script"] f fd) (B : Bl mg) : FnOk P w K mg base CX0 1 f fd ["script"] (spBegun K) := by
  refine D.F.ok scBegun (fun vs H Q E h => ?_) (fun cdv A outer s H vs Q E hr h => ?_)
  · obtain ⟨a, ns, rfl, _⟩ := h
    rfl
  · obtain ⟨a, ns, rfl, hS, hlen, k⟩ := h
    refine ⟨_, pss_cons (ps_set (i := 1) scBegun.nd rfl (Or.inl rfl) (pe_op op_add pe_int (pe_op op_mul pe_int (pe_callB call_len_seq (by rfl) B.len PySem.boot_len (pa_cons (pv 0) pa_nil)))))
      (pss_cons (ps_for PassesOwn.never rfl (pi_enum (by rfl) B.enumerate (pa_cons (pv 0) pa_nil)) (pg_tup rfl (pgs_cons (pg_name (i := 2) scBegun.nd rfl (Or.inl rfl)) (pgs_cons (pg_name (i := 3) scBegun.nd rfl (Or.inl rfl)) pgs_nil)))
        (pss_one (ps_set (i := 1) scBegun.nd rfl (Or.inl rfl) (pe_op op_modN (pe_op op_add (pe_op op_add (pe_op op_mul (pv 1) pe_int) (pv 3)) (pe_op op_mul pe_int (pv 2))) pe_int))))
      (pss_one (ps_ret (pe_disp (pps_cons pe_str (pv 1) (pps_cons pe_str
        (pe_lc (own := [("cell", 3)]) (g := gName 3) rfl scBegun.nd (pi_list (pv 0)) (blkOk_by (own := [("cell", 3)]) (N := ["script", "run", "k", "cell"]) (sc := defScope sBegun) (by decide +kernel)) (fun _ _ _ _ _ => pg_name (i := 3) scBegun.nd rfl (Or.inl rfl)) (fun _ _ _ _ _ => pts_one (pt_cmpR op_ge (pv 3) (pe_op op_pow pe_int pe_int) (nomark _))) (fun _ _ _ _ _ => pv 3))
        (pps_cons pe_str pe_int pps_nil))) (by rfl) (by rfl) (fun z => by cases z) (by decide))))), ?_⟩
    refine ⟨_, rfl, a, _, rfl, .inl hS, _, _, rfl, rfl, .inl ⟨by decide, by decide⟩, _, _, rfl, rfl, ?_⟩
    refine ⟨_, rfl, a, _, rfl, hS, for_enumL (K := K) (a := a) (xs := ns.map V.int) (fun i σ H' => ∃ (r : Int) (v2 v3 : Option V), σ = [some (.ref a), some (.int r), v2, v3] ∧ 0 ≤ r ∧ r < 2305843009213693951 ∧ Same H H') ?_ (fun i σ H' _ ⟨_, _, _, _, _, _, sm⟩ => sm.seq hS) ?_ ?_⟩
    · rw [List.length_map]
      exact ⟨_, _, _, rfl, by omega, by omega, Same.refl H⟩
    · rintro i x T σ H' hi ⟨r, v2, v3, rfl, r0, r1, sm⟩ hT
      obtain ⟨z, rfl, _⟩ := int_at hi
      refine ⟨T, _, rfl, SqT.of upd_same, rfl, _, _, rfl, _, _, rfl, rfl, ?_⟩
      refine ⟨_, rfl, _, _, rfl, rfl, .inl ⟨by omega, by omega⟩, _, rfl, _, _, rfl, rfl, _, rfl, _, _, rfl, rfl, .inl ⟨by decide, by decide⟩, _, _, rfl, rfl, _, _, rfl, rfl, (by show (2305843009213693951 : Int) ≠ 0; decide), ?_⟩
      obtain ⟨n, en, hn⟩ := fmod_nat (r * 998244353 + z + 104723 * (i : Nat)) (m := 2305843009213693951) (by decide)
      dsimp only
      rw [en]
      refine ⟨_, _, _, rfl, by omega, hn, fun b o e => ?_⟩
      have := sm b o e
      rw [upd_ne (ne_of_none this hT)]
      exact this
    · rintro σ H' ⟨r, v2, v3, rfl, r0, r1, sm⟩
      intro d hd
      have S1 := sm.seq hS
      have nad : ∀ (xs : List V), SqL K H' a xs → SqL K (upd H' d (.dK [])) a xs := fun xs h => (same_new hd).seq h
      refine ⟨_, rfl, _, rfl, a, rfl, ⟨_, nad _ S1⟩, fun g hg => ?_⟩
      have ngd : d ≠ g := fun e => by
        rw [← e, upd_same] at hg
        cases hg
      have hg0 : H' g = none := by rwa [upd_ne ngd.symm] at hg
      refine lc_list (K := K) (a := a) (xs := ns.map V.int) (fun i H2 => ∃ acc : List Int, H2 = upd (upd H' d (.dK [])) g (.lst (acc.map V.int)) ∧ acc.length ≤ i) ⟨[], rfl, Nat.le_refl _⟩ ?_ ?_ ?_
      · rintro i H2 _ ⟨acc, rfl, _⟩
        exact (same_new hg).seq (nad _ S1)
      · rintro i x H2 hi ⟨acc, rfl, hl⟩
        obtain ⟨z, rfl, hz⟩ := int_at hi
        have hil : i < ns.length := (List.getElem?_eq_some_iff.mp hz).1
        refine ⟨rfl, _, rfl, _, _, rfl, rfl, ⟨by decide, by decide, by decide⟩, _, _, rfl, rfl, _, rfl, ?_⟩
        refine ite2 (fun _ => ?_) (fun _ => ?_)
        · refine ⟨_, rfl, acc.map V.int, upd_same, by rw [List.length_map]; exact small1000 (by omega), acc ++ [z], ?_, by rw [List.length_append]; show acc.length + 1 ≤ _; omega⟩
          rw [upd_upd, List.map_append]
          rfl
        · exact ⟨acc, rfl, by omega⟩
      · rintro H2 ⟨acc, rfl, hl⟩
        refine ⟨by rw [upd_ne ngd, upd_same], drK r 0 g, rfl, (by show 3 ≤ 15; decide), ?_⟩
        rw [merge_dr]
        refine k d g _ ⟨r, 0, acc, upd_same, by rw [upd_ne ngd.symm, upd_same], r0, r1⟩ (fun b o e => ?_) (sm.free hd) (sm.free hg0)
        have := sm b o e
        rw [upd_ne (ne_of_none this hd), upd_ne (ne_of_none this hg0), upd_ne (ne_of_none this hd)]
        exact this
end
end K14
set_option Elab.async false
set_option linter.all false
set_option maxRecDepth 100000
namespace K14
open PySem L2
theorem pick10 (n : Nat) (h : n < 10) : ∃ m : Nat, m ≤ 6 ∧ ([V.int 0, .int 1, .int 2, .int 3, .int 4, .int 5, .int 6, .int 6, .int 6, .int 6] : List V)[n]? = some (nV m) := by
  match n, h with
  | 0, _ => exact ⟨0, by decide, rfl⟩
  | 1, _ => exact ⟨1, by decide, rfl⟩
  | 2, _ => exact ⟨2, by decide, rfl⟩
  | 3, _ => exact ⟨3, by decide, rfl⟩
  | 4, _ => exact ⟨4, by decide, rfl⟩
  | 5, _ => exact ⟨5, by decide, rfl⟩
  | 6, _ => exact ⟨6, by decide, rfl⟩
  | 7, _ => exact ⟨6, by decide, rfl⟩
  | 8, _ => exact ⟨6, by decide, rfl⟩
  | 9, _ => exact ⟨6, by decide, rfl⟩
theorem pick7 {z far m : Nat} (hz : 8 ≤ z ∧ z ≤ 4096) (hf : far < 4294967296) (h : m ≤ 6) : ∃ c : Nat, c < 4294967296 ∧
    ([V.int 0, .int (z : Int), .int (32 * (z : Int)), .int ((z : Int) - 1), .int 4294967295, .int ((far : Int) - (far : Int).fmod (32 * (z : Int))), .int (far : Int)] : List V)[m]? = some (nV c) := by
  match m, h with
  | 0, _ => exact ⟨0, by decide, rfl⟩
  | 1, _ => exact ⟨z, by omega, rfl⟩
  | 2, _ => exact ⟨32 * z, by omega, by show some (V.int _) = _; rw [show (32 * (z : Int)) = ((32 * z : Nat) : Int) by omega]⟩
  | 3, _ => exact ⟨z - 1, by omega, by show some (V.int _) = _; rw [show ((z : Int) - 1) = ((z - 1 : Nat) : Int) by omega]⟩
  | 4, _ => exact ⟨4294967295, by decide, rfl⟩
  | 5, _ =>
    have e : (far : Int).fmod (32 * (z : Int)) = ((far % (32 * z) : Nat) : Int) := by
      rw [Int.fmod_eq_emod_of_nonneg _ (by omega), show (32 * (z : Int)) = ((32 * z : Nat) : Int) by omega]
      rfl
    have := Nat.mod_le far (32 * z)
    exact ⟨far - far % (32 * z), by omega, by show some (V.int _) = _; rw [e, show ((far : Int) - ((far % (32 * z) : Nat) : Int)) = ((far - far % (32 * z) : Nat) : Int) by omega]⟩
  | 6, _ => exact ⟨far, hf, rfl⟩
theorem Kept.trans {H H1 H2 : Hp} {d g : Addr} (a : Kept H H1 d g) (b : Kept H1 H2 d g) : Kept H H2 d g := fun c o e h1 h2 => b c o (a c o e h1 h2) h1 h2
theorem Kept.of_same {H H1 : Hp} {d g : Addr} (a : Same H H1) : Kept H H1 d g := fun c o e _ _ => a c o e
theorem DrawE.same {H H1 : Hp} {d g : Addr} (a : Same H H1) (h : DrawE H d g) : DrawE H1 d g := by
  obtain ⟨r, t, gs, h1, h2, h3, h4⟩ := h
  exact ⟨r, t, gs, a _ _ h1, a _ _ h2, h3, h4⟩
section
variable {P : Program} {w : World} {K : PySem.W.Frag} {mg : Str → Option Value} {base : Heap}
def spLCode : Sp := fun vs H Q _ => ∃ (d g : Addr) (z : Nat), vs = [.ref d, .int (z : Int)] ∧ DrawE H d g ∧ goodSize z ∧ ∀ (c : Nat) (H' : Hp), c < 4294967296 → DrawE H' d g → Kept H H' d g → Q (.int (c : Int)) H'
theorem scLCode : FnScope ["draw", "size", "far", "some"] ["draw", "size"] (defScope sLCode) := ⟨rfl, rfl, rfl, by decide +kernel, rfl, by decide +kernel, by decide +kernel⟩
theorem ok_lcode {f f1 : Addr} {fd fd1 : FuncData} (D : Df K mg "_law_code" "_law_code" sLCode ["draw", "size"] f fd) (D1 : Df K mg "_law_next" "_law_next" sNext ["draw", "below"] f1 fd1) (G1 : FnOk P w K mg base CX0 1 f1 fd1 ["draw", "below"] spNext) :
    FnOk P w K mg base CX0 2 f fd ["draw", "size"] spLCode := by
  refine D.F.ok scLCode (fun vs H Q E h => ?_) (fun cdv A outer s H vs Q E hr h => ?_)
  · obtain ⟨d, g, z, rfl, _⟩ := h
    rfl
  · obtain ⟨d, g, z, rfl, de, hz, k⟩ := h
    have h8 := hz.pos
    refine ⟨_, pss_cons (ps_set (i := 2) scLCode.nd rfl (Or.inl rfl) (pe_call G1 hr rfl D1.g D1.F.kp D1.b .nil pass0 (pa_cons (pv 0) (pa_cons pe_int pa_nil))))
      (pss_cons (ps_set (i := 3) scLCode.nd rfl (Or.inl rfl) (pe_lst (pa_cons pe_int (pa_cons (pv 1) (pa_cons (pe_op op_mul pe_int (pv 1)) (pa_cons (pe_op op_sub (pv 1) pe_int) (pa_cons pe_int (pa_cons (pe_op op_sub (pv 2) (pe_op op_modN (pv 2) (pe_op op_mul pe_int (pv 1)))) (pa_cons (pv 2) pa_nil)))))))))
      (pss_one (ps_ret (pe_ix ix_list (pv 3) (pe_ix ix_list (pe_lst (pa_cons pe_int (pa_cons pe_int (pa_cons pe_int (pa_cons pe_int (pa_cons pe_int (pa_cons pe_int (pa_cons pe_int (pa_cons pe_int (pa_cons pe_int (pa_cons pe_int pa_nil)))))))))))
        (pe_call G1 hr rfl D1.g D1.F.kp D1.b .nil pass0 (pa_cons (pv 0) (pa_cons pe_int pa_nil))) (fun _ _ => rfl)) (fun _ _ => rfl))))), ?_⟩
    refine ⟨_, rfl, d, g, 4294967296, rfl, de, by decide, by decide, fun far H1 hf de1 kp1 => ?_⟩
    refine ⟨_, rfl, _, rfl, _, _, rfl, rfl, .inl ⟨by decide, by decide⟩, _, rfl, _, _, rfl, rfl, _, rfl, _, rfl, _, rfl, _, _, rfl, rfl, .inl ⟨by decide, by decide⟩, _, _, rfl, rfl, (by show 32 * (z : Int) ≠ 0; omega), _, _, rfl, rfl, _, rfl, (by show 7 ≤ sizeLine; decide), fun L hL => ?_⟩
    refine ⟨_, rfl, (by show 10 ≤ sizeLine; decide), fun L2 hL2 => ?_⟩
    have nL : L ≠ L2 := fun e => by
      rw [← e, upd_same] at hL2
      cases hL2
    refine ⟨_, rfl, d, g, 10, rfl, (de1.same (same_new hL)).same (same_new hL2), by decide, by decide, fun n H3 hn de3 kp3 => ?_⟩
    obtain ⟨m, hm, em⟩ := pick10 n hn
    obtain ⟨c, hc, ec⟩ := pick7 h8 hf hm
    obtain ⟨r, t, gs, dr⟩ := de1
    have sm1 := same_new (o := .lst [V.int 0, .int (z : Int), .int (32 * (z : Int)), .int ((z : Int) - 1), .int 4294967295, .int ((far : Int) - (far : Int).fmod (32 * (z : Int))), .int (far : Int)]) hL
    have a1 : L ≠ d := (ne_of_none dr.dc hL).symm
    have a2 : L ≠ g := (ne_of_none dr.gl hL).symm
    have b1 : L2 ≠ d := (ne_of_none (sm1 _ _ dr.dc) hL2).symm
    have b2 : L2 ≠ g := (ne_of_none (sm1 _ _ dr.gl) hL2).symm
    refine ⟨L2, _, (n : Int), _, rfl, rfl, SqL.of (kp3 L2 _ upd_same b1 b2), atI_nat em, L, _, (m : Int), _, rfl, rfl, SqL.of (kp3 L _ (by rw [upd_ne nL, upd_same]) a1 a2), atI_nat ec, ?_⟩
    exact k c H3 hc de3 (kp1.trans ((Kept.of_same sm1).trans ((Kept.of_same (same_new hL2)).trans kp3)))
end
end K14
set_option Elab.async false
set_option linter.all false
set_option maxRecDepth 100000
namespace K14
open PySem L2
/-! ### the books of the law: cs the codes, ps the live indexes with their slots, xs the row -/
structure Good (cs : List Nat) (ps : List (Nat × Nat)) (xs : List Int) : Prop where
  sz : goodSize xs.length
  cd : ∀ c ∈ cs, c < 4294967296
  nd : (ps.map (·.1)).Nodup
  ge : ∀ v ∈ xs, -2 ≤ v
  all : ∀ (s : Nat) (v : Int), xs[s]? = some v → 0 ≤ v → (v.toNat, s) ∈ ps
  at_ : ∀ i s, (i, s) ∈ ps → xs[s]? = some (i : Int)
  way : ∀ i s, (i, s) ∈ ps → ∃ c, cs[i]? = some c ∧ ∃ j, j < xs.length + 6 ∧ s = sA xs.length c j ∧ ∀ m, m < j → xs[sA xs.length c m]? ≠ some (-1)
  neg : xs.count (-1) + xs.count (-2) + ps.length = xs.length
theorem goT_mem {xs : List Int} {c : Nat} : ∀ (m i j : Nat), i ≤ j → j < i + m → (∀ k, i ≤ k → k < j → xs[sA xs.length c k]? ≠ some (-1)) → sA xs.length c j ∈ goT xs c m i
  | 0, i, j, h1, h2, _ => by omega
  | m + 1, i, j, h1, h2, h => by
    unfold goT
    rcases Nat.lt_or_eq_of_le h1 with hlt | rfl
    · rw [if_neg (h i (Nat.le_refl _) hlt)]
      exact List.mem_cons_of_mem _ (goT_mem m (i + 1) j hlt (by omega) fun k h3 h4 => h k (by omega) h4)
    · exact List.mem_cons_self ..
theorem Good.trail {cs : List Nat} {ps : List (Nat × Nat)} {xs : List Int} (g : Good cs ps xs) {i s c : Nat} (h : (i, s) ∈ ps) (hc : cs[i]? = some c) : s ∈ trailOf xs c := by
  obtain ⟨c', hc', j, hj, rfl, hw⟩ := g.way i s h
  rw [hc] at hc'
  obtain rfl := Option.some.inj hc'
  exact goT_mem _ 0 j (Nat.zero_le _) (by omega) fun k _ h2 => hw k h2
theorem nodup_fst {α β : Type} {ps : List (α × β)} (h : (ps.map (·.1)).Nodup) {a : α} {b b' : β} (h1 : (a, b) ∈ ps) (h2 : (a, b') ∈ ps) : b = b' := by
  induction ps with
  | nil => cases h1
  | cons p ps ih =>
    rw [List.map_cons, List.nodup_cons] at h
    rcases List.mem_cons.mp h1 with e1 | h1
    · rcases List.mem_cons.mp h2 with e2 | h2
      · exact (Prod.mk.inj (e1.trans e2.symm)).2
      · exact absurd (List.mem_map.mpr ⟨_, h2, by rw [← e1]⟩) h.1
    · rcases List.mem_cons.mp h2 with e2 | h2
      · exact absurd (List.mem_map.mpr ⟨_, h1, by rw [← e2]⟩) h.1
      · exact ih h.2 h1 h2
theorem Good.slot {cs : List Nat} {ps : List (Nat × Nat)} {xs : List Int} (g : Good cs ps xs) {i s s' : Nat} (h : (i, s) ∈ ps) (h' : xs[s']? = some (i : Int)) : s' = s := by
  have := g.all s' i h' (by omega)
  rw [show ((i : Int)).toNat = i by omega] at this
  exact nodup_fst g.nd this h
/-- slot_of finds the live index -/
theorem Good.found {cs : List Nat} {ps : List (Nat × Nat)} {xs : List Int} (g : Good cs ps xs) {i s c : Nat} (h : (i, s) ∈ ps) (hc : cs[i]? = some c) : slotRes xs c i = nV s := by
  unfold slotRes
  cases hf : (trailOf xs c).find? (fun s => decide (xs[s]? = some (i : Int))) with
  | none =>
    have := List.find?_eq_none.mp hf s (g.trail h hc)
    exact absurd (decide_eq_true (g.at_ i s h)) this
  | some s' =>
    have e := List.find?_some hf
    have := g.slot h (of_decide_eq_true e)
    rw [this]
/-- and finds no index that isn't there -/
theorem slot_none {xs : List Int} {c i : Nat} (h : ∀ s : Nat, xs[s]? ≠ some (i : Int)) : slotRes xs c i = .non := by
  unfold slotRes
  rw [List.find?_eq_none.mpr fun s _ e => h s (of_decide_eq_true e)]
theorem Good.inWay {cs : List Nat} {ps : List (Nat × Nat)} {xs : List Int} (g : Good cs ps xs) {i s c : Nat} (h : (i, s) ∈ ps) (hc : cs[i]? = some c) :
    ∃ j, j < xs.length + 6 ∧ (K12.first c xs.length (xs.length + 6))[j]? = some s ∧ (∀ m, m < j → ∃ x, (K12.first c xs.length (xs.length + 6))[m]? = some x ∧ x ≠ s ∧ ∃ v, xs[x]? = some v ∧ v ≠ -1) := by
  obtain ⟨c', hc', j, hj, hs, hw⟩ := g.way i s h
  rw [hc] at hc'
  obtain rfl := Option.some.inj hc'
  have h8 := g.sz.pos
  have at_ : ∀ m, m < xs.length + 6 → (K12.first c xs.length (xs.length + 6))[m]? = some (sA xs.length c m) := fun m hm => by
    rw [K12.first_eq, List.getElem?_map, List.getElem?_range hm]
    rfl
  -- the first j of that slot
  have ex : ∃ j, j < xs.length + 6 ∧ s = sA xs.length c j ∧ (∀ m, m < j → xs[sA xs.length c m]? ≠ some (-1)) ∧ ∀ m, m < j → sA xs.length c m ≠ s := by
    clear at_
    induction j using Nat.strongRecOn with
    | ind j ih =>
      by_cases q : ∃ m, m < j ∧ sA xs.length c m = s
      · obtain ⟨m, hm, e⟩ := q
        exact ih m hm (by omega) e.symm (fun k hk => hw k (by omega))
      · exact ⟨j, hj, hs, hw, fun m hm e => q ⟨m, hm, e⟩⟩
  obtain ⟨j, hj, hs, hw, hn⟩ := ex
  refine ⟨j, hj, by rw [at_ j hj, hs], fun m hm => ⟨_, at_ m (by omega), hn m hm, ?_⟩⟩
  have hl := sA_lt (show 0 < xs.length by omega) c m
  exact ⟨_, List.getElem?_eq_getElem hl, fun e => hw m hm (by rw [List.getElem?_eq_getElem hl, e])⟩
/-- a free slot on the path -/
theorem Good.free {cs : List Nat} {ps : List (Nat × Nat)} {xs : List Int} (g : Good cs ps xs) (hp : ps.length < xs.length) {c : Nat} (hc : c < 4294967296) : ∃ j, FreeAt xs c j := by
  have h8 := g.sz.pos
  have hneg : 0 < xs.count (-1) + xs.count (-2) := by have := g.neg; omega
  have ⟨v, hv, hv0⟩ : ∃ v, v ∈ xs ∧ v < 0 := by
    by_cases h : 0 < xs.count (-1)
    · exact ⟨-1, List.count_pos_iff.mp h, by decide⟩
    · exact ⟨-2, List.count_pos_iff.mp (by omega), by decide⟩
  obtain ⟨x, hx⟩ := List.getElem?_of_mem hv
  have hxl : x < xs.length := (List.getElem?_eq_some_iff.mp hx).1
  have ⟨m, em⟩ : ∃ m, xs.length = 2 ^ m := by
    have h := g.sz
    unfold goodSize sizesI at h
    simp only [List.mem_cons, List.not_mem_nil, or_false] at h
    rcases h with h | h | h | h | h | h | h | h | h | h
    · exact ⟨3, by omega⟩
    · exact ⟨4, by omega⟩
    · exact ⟨5, by omega⟩
    · exact ⟨6, by omega⟩
    · exact ⟨7, by omega⟩
    · exact ⟨8, by omega⟩
    · exact ⟨9, by omega⟩
    · exact ⟨10, by omega⟩
    · exact ⟨11, by omega⟩
    · exact ⟨12, by omega⟩
  have hm : x ∈ K12.first c xs.length (xs.length + 6) := by
    rw [em]
    exact (K12.first_mem hc x).mpr (em ▸ hxl)
  rw [K12.first_eq] at hm
  obtain ⟨j, hj, e⟩ := List.mem_map.mp hm
  rw [List.mem_range] at hj
  have hf : ∃ v, xs[sA xs.length c j]? = some v ∧ v < 0 := ⟨v, by rw [show sA xs.length c j = x from e]; exact hx, hv0⟩
  clear e hm
  induction j using Nat.strongRecOn with
  | ind j ih =>
    by_cases q : ∃ m, m < j ∧ ∃ v, xs[sA xs.length c m]? = some v ∧ v < 0
    · obtain ⟨m, hm, hv⟩ := q
      exact ih m hm (by omega) hv
    · refine ⟨j, hj, hf, fun i hi => ?_⟩
      have hl := sA_lt (show 0 < xs.length by omega) c i
      exact ⟨_, List.getElem?_eq_getElem hl, Int.not_lt.mp fun z => q ⟨i, hi, _, List.getElem?_eq_getElem hl, z⟩⟩
theorem neg_set {xs : List Int} {s : Nat} {v z : Int} (h : xs[s]? = some v) :
    (xs.set s z).count (-1) + (xs.set s z).count (-2) + (if v = -1 ∨ v = -2 then 1 else 0) = xs.count (-1) + xs.count (-2) + (if z = -1 ∨ z = -2 then 1 else 0) := by
  obtain ⟨hl, e⟩ := List.getElem?_eq_some_iff.mp h
  rw [List.count_set hl, List.count_set hl, e]
  have h1 : v = -1 → 0 < xs.count (-1) := fun z => List.count_pos_iff.mpr (z ▸ List.mem_of_getElem? h)
  have h2 : v = -2 → 0 < xs.count (-2) := fun z => List.count_pos_iff.mpr (z ▸ List.mem_of_getElem? h)
  simp only [beq_iff_eq]
  by_cases a1 : v = -1
  · have := h1 a1
    subst a1
    by_cases b1 : z = -1
    · subst b1
      simp
      omega
    · by_cases b2 : z = -2
      · subst b2
        simp
        omega
      · simp [b1, b2]
        omega
  · by_cases a2 : v = -2
    · have := h2 a2
      subst a2
      by_cases b1 : z = -1
      · subst b1
        simp
        omega
      · by_cases b2 : z = -2
        · subst b2
          simp
          omega
        · simp [b1, b2]
          omega
    · by_cases b1 : z = -1
      · subst b1
        simp [a1, a2]
        omega
      · by_cases b2 : z = -2
        · subst b2
          simp [a1, a2]
          omega
        · simp [a1, a2, b1, b2]
theorem set_at {xs : List Int} {s s' : Nat} {z v : Int} (h : (xs.set s z)[s']? = some v) : (s' = s ∧ v = z) ∨ (s' ≠ s ∧ xs[s']? = some v) := by
  rw [List.getElem?_set] at h
  by_cases e : s = s'
  · subst e
    rw [if_pos rfl] at h
    split at h
    · exact .inl ⟨rfl, (Option.some.inj h).symm⟩
    · cases h
  · rw [if_neg e] at h
    exact .inr ⟨fun z => e z.symm, h⟩
theorem set_ne {xs : List Int} {s s' : Nat} {z : Int} (h : s' ≠ s) : (xs.set s z)[s']? = xs[s']? := by
  rw [List.getElem?_set, if_neg (fun e => h e.symm)]
theorem nodup_snoc {α : Type} {k : α} : ∀ {l : List α}, l.Nodup → ¬ k ∈ l → (l ++ [k]).Nodup
  | [], _, _ => by simp
  | a :: l, h, hk => by
    rw [List.nodup_cons] at h
    rw [List.cons_append, List.nodup_cons]
    refine ⟨fun hm => ?_, nodup_snoc h.2 fun q => hk (List.mem_cons_of_mem _ q)⟩
    rcases List.mem_append.mp hm with q | q
    · exact h.1 q
    · exact hk (List.mem_cons.mpr (Or.inl (List.mem_singleton.mp q).symm))
theorem Good.place {cs : List Nat} {ps : List (Nat × Nat)} {xs : List Int} (g : Good cs ps xs) {c j : Nat} (hc : c < 4294967296) (fa : FreeAt xs c j) :
    Good (cs ++ [c]) (ps ++ [(cs.length, sA xs.length c j)]) (xs.set (sA xs.length c j) (cs.length : Int)) := by
  obtain ⟨v, hv, v0⟩ := fa.free
  have hl := (List.getElem?_eq_some_iff.mp hv).1
  have lt : ∀ i s, (i, s) ∈ ps → i < cs.length := fun i s h => by
    obtain ⟨c', h', _⟩ := g.way i s h
    exact (List.getElem?_eq_some_iff.mp h').1
  have ne : ∀ i s, (i, s) ∈ ps → s ≠ sA xs.length c j := fun i s h e => by
    have := g.at_ i s h
    rw [e, hv] at this
    have := Option.some.inj this
    omega
  refine ⟨by rw [List.length_set]; exact g.sz, fun c' h => ?_, ?_, fun z hz => ?_, fun s z hs hz => ?_, fun i s h => ?_, fun i s h => ?_, ?_⟩
  · rcases List.mem_append.mp h with h | h
    · exact g.cd c' h
    · rw [List.mem_singleton.mp h]
      exact hc
  · rw [List.map_append]
    exact nodup_snoc g.nd fun h => by
      obtain ⟨⟨i, s⟩, h1, h2⟩ := List.mem_map.mp h
      have := lt i s h1
      have h2 : i = cs.length := h2
      omega
  · rcases List.mem_or_eq_of_mem_set hz with h | h
    · exact g.ge z h
    · omega
  · rcases set_at hs with ⟨rfl, rfl⟩ | ⟨h1, h2⟩
    · rw [show ((cs.length : Int)).toNat = cs.length by omega]
      exact List.mem_append_right _ (List.mem_singleton.mpr rfl)
    · exact List.mem_append_left _ (g.all s z h2 hz)
  · rcases List.mem_append.mp h with h | h
    · rw [set_ne (ne i s h)]
      exact g.at_ i s h
    · obtain ⟨rfl, rfl⟩ := Prod.mk.inj (List.mem_singleton.mp h)
      rw [List.getElem?_set, if_pos rfl, if_pos hl]
  · rw [List.length_set]
    have keep : ∀ x, xs[x]? ≠ some (-1) → (xs.set (sA xs.length c j) (cs.length : Int))[x]? ≠ some (-1) := fun x hx e => by
      rcases set_at e with ⟨_, h2⟩ | ⟨_, h2⟩
      · omega
      · exact hx h2
    rcases List.mem_append.mp h with h | h
    · obtain ⟨c', h1, j', h2, h3, h4⟩ := g.way i s h
      exact ⟨c', by rw [List.getElem?_append_left (lt i s h)]; exact h1, j', h2, h3, fun m hm => keep _ (h4 m hm)⟩
    · obtain ⟨rfl, rfl⟩ := Prod.mk.inj (List.mem_singleton.mp h)
      refine ⟨c, by simp, j, fa.lt, rfl, fun m hm => keep _ fun e => ?_⟩
      obtain ⟨z, hz, z0⟩ := fa.full m hm
      rw [hz] at e
      have := Option.some.inj e
      omega
  · have e := neg_set (z := (cs.length : Int)) hv
    rw [if_pos (by have := g.ge v (List.mem_of_getElem? hv); omega), if_neg (by omega)] at e
    rw [List.length_append, List.length_set]
    have := g.neg
    show _ + (ps.length + 1) = _
    omega
def dropP (ps : List (Nat × Nat)) (i : Nat) : List (Nat × Nat) := ps.filter fun p => decide (p.1 ≠ i)
theorem mem_dropP {ps : List (Nat × Nat)} {i a b : Nat} : (a, b) ∈ dropP ps i ↔ (a, b) ∈ ps ∧ a ≠ i := by
  unfold dropP
  rw [List.mem_filter]
  simp
theorem dropP_len : ∀ {ps : List (Nat × Nat)} {i s : Nat}, (ps.map (·.1)).Nodup → (i, s) ∈ ps → (dropP ps i).length + 1 = ps.length
  | [], _, _, _, h => by cases h
  | p :: ps, i, s, nd, h => by
    rw [List.map_cons, List.nodup_cons] at nd
    unfold dropP
    rw [List.filter_cons]
    by_cases e : p.1 = i
    · rw [if_neg (by simp [e])]
      have : ps.filter (fun p => decide (p.1 ≠ i)) = ps := List.filter_eq_self.mpr fun q hq => by
        simp
        intro z
        exact nd.1 (List.mem_map.mpr ⟨q, hq, by rw [z, e]⟩)
      rw [this]
      rfl
    · rw [if_pos (by simp [e])]
      have h' : (i, s) ∈ ps := by
        rcases List.mem_cons.mp h with h | h
        · exact absurd (by rw [← h]) e
        · exact h
      have := dropP_len nd.2 h'
      unfold dropP at this
      rw [List.length_cons, List.length_cons]
      omega
theorem Good.erase {cs : List Nat} {ps : List (Nat × Nat)} {xs : List Int} (g : Good cs ps xs) {i s : Nat} (h : (i, s) ∈ ps) : Good cs (dropP ps i) (xs.set s (-2)) ∧ ∀ s' : Nat, (xs.set s (-2))[s']? ≠ some (i : Int) := by
  have hs := g.at_ i s h
  have only : ∀ s' : Nat, (xs.set s (-2))[s']? ≠ some (i : Int) := fun s' e => by
    rcases set_at e with ⟨_, h2⟩ | ⟨h1, h2⟩
    · omega
    · exact h1 (g.slot h h2)
  refine ⟨⟨by rw [List.length_set]; exact g.sz, g.cd, ?_, fun z hz => ?_, fun s' z hs' hz => ?_, fun i' s' h' => ?_, fun i' s' h' => ?_, ?_⟩, only⟩
  · exact List.Nodup.sublist (List.Sublist.map _ List.filter_sublist) g.nd
  · rcases List.mem_or_eq_of_mem_set hz with h | h
    · exact g.ge z h
    · omega
  · rcases set_at hs' with ⟨_, h2⟩ | ⟨h1, h2⟩
    · omega
    · refine mem_dropP.mpr ⟨g.all s' z h2 hz, fun e => only s' ?_⟩
      rw [hs', ← e]
      congr 1
      omega
  · obtain ⟨h1, h2⟩ := mem_dropP.mp h'
    have a := g.at_ i' s' h1
    rw [set_ne ?_]
    · exact a
    · rintro rfl
      rw [hs] at a
      have := Option.some.inj a
      omega
  · obtain ⟨h1, h2⟩ := mem_dropP.mp h'
    obtain ⟨c', q1, j', q2, q3, q4⟩ := g.way i' s' h1
    rw [List.length_set]
    refine ⟨c', q1, j', q2, q3, fun m hm e => ?_⟩
    rcases set_at e with ⟨_, z⟩ | ⟨_, z⟩
    · omega
    · exact q4 m hm z
  · have e := neg_set (z := -2) hs
    rw [if_neg (by omega), if_pos (by omega)] at e
    have := g.neg
    have := dropP_len g.nd h
    rw [List.length_set]
    omega
end K14
set_option Elab.async false
set_option linter.all false
set_option maxRecDepth 100000
namespace K14
open PySem L2
def psK (ps : List (Nat × Nat)) : List (Key × V) := ps.map fun p => ((Sum.inl (p.1 : Int) : Key), V.int (p.2 : Int))
theorem psK_get : ∀ {ps : List (Nat × Nat)} {i s : Nat}, (ps.map (·.1)).Nodup → (i, s) ∈ ps → valV (psK ps) (Sum.inl (i : Int)) = some (.int (s : Int))
  | [], _, _, _, h => by cases h
  | p :: ps, i, s, nd, h => by
    rw [List.map_cons, List.nodup_cons] at nd
    unfold psK valV
    rw [List.map_cons, List.find?_cons]
    by_cases e : p.1 = i
    · rw [decide_eq_true (by rw [e])]
      rcases List.mem_cons.mp h with h | h
      · rw [← h]
        rfl
      · exact absurd (List.mem_map.mpr ⟨_, h, e.symm⟩) nd.1
    · rw [decide_eq_false (fun z => e (by have := Sum.inl.inj z; omega))]
      have h' : (i, s) ∈ ps := by
        rcases List.mem_cons.mp h with h | h
        · exact absurd (by rw [← h]) e
        · exact h
      exact psK_get nd.2 h'
/-- for k in d, the dict locked -/
theorem for_keysL {d : Addr} {o : Obj} {kvs : List (Key × V)} {g : TG} {tb : TS} {D : Ends} {σ : L2.St} {H : Hp} (Pv : Nat → L2.St → Hp → Prop) (h0 : Pv 0 σ H) (hl : ∀ i σ H, i ≤ kvs.length → Pv i σ H → H d = some (.frz o (.dK kvs)))
    (hs : ∀ i k v σ H, kvs[i]? = some (k, v) → Pv i σ H → g (kV k) σ H fun σ2 H2 => tb { D with nx := Pv (i + 1), ct := Pv (i + 1), bk := D.nx } σ2 H2) (hd : ∀ σ H, Pv kvs.length σ H → D.nx σ H) :
    ∃ W : Nat → Nat → L2.St → Hp → Prop, (∃ m, W 0 m σ H) ∧ ∀ i m σ H, W i m σ H →
      ((Itk d o kvs).stop i H ∧ D.nx σ H) ∨ ((Itk d o kvs).go i H ∧ ∃ N : L2.St → Hp → Prop, (∀ σ' H', N σ' H' → ∃ m', m' < m ∧ W (i + 1) m' σ' H') ∧ ∀ x H', (Itk d o kvs).yld i H x H' → g x σ H' fun σ2 H2 => tb { D with nx := N, ct := N, bk := D.nx } σ2 H2) := by
  refine ⟨fun i m σ H => m = kvs.length - i ∧ i ≤ kvs.length ∧ Pv i σ H, ⟨kvs.length, by simp, Nat.zero_le _, h0⟩, ?_⟩
  rintro i m σ H ⟨rfl, hi, p⟩
  have q := hl i σ H hi p
  by_cases hlt : i < kvs.length
  · refine .inr ⟨⟨q, hlt⟩, Pv (i + 1), fun σ' H' p' => ⟨kvs.length - (i + 1), by omega, rfl, hlt, p'⟩, fun x H' y => ?_⟩
    obtain ⟨rfl, k, v, hk, rfl⟩ := y
    exact hs i k v σ H' hk p
  · have e : i = kvs.length := by omega
    subst e
    exact .inl ⟨⟨q, Nat.le_refl _⟩, hd σ H p⟩
theorem flat_int (l : List Int) : (l.map V.int).all flatV = true := by
  rw [List.all_eq_true]
  intro x hx
  obtain ⟨z, _, rfl⟩ := List.mem_map.mp hx
  rfl
theorem flat_nV (l : List Nat) : (l.map nV).all flatV = true := by
  rw [List.all_eq_true]
  intro x hx
  obtain ⟨z, _, rfl⟩ := List.mem_map.mp hx
  rfl
theorem in_int {z : Int} {l : List Int} : inV (.int z) (l.map V.int) = decide (z ∈ l) := by
  unfold inV
  rw [Bool.eq_iff_iff, List.any_eq_true, decide_eq_true_iff]
  constructor
  · rintro ⟨x, hx, e⟩
    obtain ⟨y, hy, rfl⟩ := List.mem_map.mp hx
    have e : (y == z) = true := e
    rw [← beq_iff_eq.mp e]
    exact hy
  · intro h
    exact ⟨_, List.mem_map.mpr ⟨z, h, rfl⟩, show (z == z) = true from beq_self_eq_true z⟩
theorem in_nV {z : Nat} {l : List Nat} : inV (.int (z : Int)) (l.map nV) = decide (z ∈ l) := by
  have e : l.map nV = (l.map fun (x : Nat) => (x : Int)).map V.int := by
    rw [List.map_map]
    rfl
  rw [e, in_int]
  rw [Bool.eq_iff_iff, decide_eq_true_iff, decide_eq_true_iff, List.mem_map]
  constructor
  · rintro ⟨a, ha, e⟩
    have : a = z := by omega
    rw [← this]
    exact ha
  · intro h
    exact ⟨z, h, rfl⟩
theorem cut_take (l : List Nat) (j : Nat) : cutV (l.map nV) none (some (j : Int)) = (l.take j).map nV := by
  unfold cutV
  rw [HT.sIx_none, HT.sIx_nat, List.drop_zero, List.length_map, Nat.sub_zero, List.map_take]
  by_cases h : j ≤ l.length
  · rw [Nat.min_eq_left h]
  · rw [Nat.min_eq_right (by omega), List.take_of_length_le (by rw [List.length_map]; exact Nat.le_refl _), List.take_of_length_le (by rw [List.length_map]; omega)]
theorem psK_at {ps : List (Nat × Nat)} {i : Nat} {k : Key} {v : V} (h : (psK ps)[i]? = some (k, v)) : ∃ ix s : Nat, k = Sum.inl (ix : Int) ∧ v = .int (s : Int) ∧ (ix, s) ∈ ps := by
  unfold psK at h
  rw [List.getElem?_map] at h
  obtain ⟨⟨a, b⟩, hm, e⟩ := Option.map_eq_some_iff.mp h
  obtain ⟨rfl, rfl⟩ := Prod.mk.inj e
  exact ⟨a, b, rfl, rfl, List.mem_of_getElem? hm⟩
abbrev NH : List Str := ["table", "codes", "places", "index", "slot", "code", "way", "ahead", "one"]
section
variable {P : Program} {w : World} {K : PySem.W.Frag} {mg : Str → Option Value} {base : Heap}
/-- the table's methods, promised -/
structure Ms (P : Program) (w : World) (K : PySem.W.Frag) (mg : Str → Option Value) (base : Heap) (C pz gz : Addr) : Prop where
  T : TT K mg C pz gz
  sz : ∃ fd, Binds K fd ["self"] [] ∧ FnOk P w K mg base CX0 1 gz fd ["self"] (spSz C)
  val : ∃ f fd, Meth K C "value_at" f ∧ Binds K fd ["self", "slot"] [] ∧ FnOk P w K mg base CX0 4 f fd ["self", "slot"] (spVal C)
  cnt : ∃ f fd, Meth K C "count_of" f ∧ Binds K fd ["self", "value"] [] ∧ FnOk P w K mg base CX0 2 f fd ["self", "value"] (spCnt C)
  plc : ∃ f fd, Meth K C "place" f ∧ Binds K fd ["self", "code", "index"] [] ∧ FnOk P w K mg base CX0 8 f fd ["self", "code", "index"] (spPlace C)
  era : ∃ f fd, Meth K C "erase" f ∧ Binds K fd ["self", "slot"] [] ∧ FnOk P w K mg base CX0 5 f fd ["self", "slot"] (spErase C)
  trl : ∃ f fd, Meth K C "trail" f ∧ Binds K fd ["self", "code"] [] ∧ FnOk P w K mg base CX0 7 f fd ["self", "code"] (spTrail C)
  slo : ∃ f fd, Meth K C "slot_of" f ∧ Binds K fd ["self", "code", "index"] [] ∧ FnOk P w K mg base CX0 8 f fd ["self", "code", "index"] (spSlotOf C)
def spHeld (C : Addr) : Sp := fun vs H Q _ => ∃ (p l q e : Addr) (cs : List Nat) (ps : List (Nat × Nat)) (xs : List Int), vs = [.ref p, .ref q, .ref e] ∧ TabAt C H p l xs ∧ H q = some (.lst (cs.map nV)) ∧ H e = some (.dK (psK ps)) ∧ Good cs ps xs ∧ ∀ H', Same H H' → Q (.bl true) H'
theorem scHeld : FnScope NH ["table", "codes", "places"] (defScope sHeld) := ⟨rfl, rfl, rfl, by decide +kernel, rfl, by decide +kernel, by decide +kernel⟩
theorem ok_held {f f1 C pz gz : Addr} {fd fd1 : FuncData} (D : Df K mg "_law_held_right" "_law_held_right" sHeld ["table", "codes", "places"] f fd) (B : Bl mg) (M : Ms P w K mg base C pz gz) (D1 : Df K mg "first_slots" "first_slots" sFirst ["code", "size", "many"] f1 fd1) (G1 : FnOk P w K mg base CX0 9 f1 fd1 ["code", "size", "many"] spFirst) :
    FnOk P w K mg base CX0 10 f fd ["table", "codes", "places"] (spHeld C) := by
  obtain ⟨fdz, bz, Gz⟩ := M.sz
  obtain ⟨fv, fdv, mv, bv, Gv⟩ := M.val
  obtain ⟨fc, fdc, mc, bc, Gc⟩ := M.cnt
  obtain ⟨ft, fdt, mt, bt, Gt⟩ := M.trl
  obtain ⟨fs, fds, ms, bs, Gs⟩ := M.slo
  have T := M.T
  refine D.F.ok scHeld (fun vs H Q E h => ?_) (fun cdv A outer s H vs Q E hr h => ?_)
  · obtain ⟨p, l, q, e, cs, ps, xs, rfl, _⟩ := h
    rfl
  · obtain ⟨p, l, q, e, cs, ps, xs, rfl, t, hq, he, g, k⟩ := h
    obtain ⟨dx, hp⟩ := t.ob
    have hu := hu_of hr
    have h8 := g.sz.pos
    refine ⟨_, pss_cons (ps_lock (ps_for PassesOwn.never rfl (pi_keys (pv 2)) (pg_name (i := 3) scHeld.nd rfl (Or.inl rfl))
      (pss_cons (ps_par (i := 4) (j := 5) rfl scHeld.nd rfl rfl (by decide) rfl rfl (pa_cons (pe_meth (pv 0) T.cl ms Gs (hr.mono (by decide)) bs .nil pass0 (pa_cons (pe_ix ix_list (pv 1) (pv 3) (fun _ _ => rfl)) (pa_cons (pv 3) pa_nil))) (pa_cons (pe_ix ix_list (pv 1) (pv 3) (fun _ _ => rfl)) pa_nil)) rfl)
      (pss_cons (ps_set (i := 6) scHeld.nd rfl (Or.inl rfl) (pe_call G1 hr rfl D1.g D1.F.kp D1.b .nil pass0 (pa_cons (pv 5) (pa_cons (pe_prop (pv 0) T.cl T.pr Gz (hr.mono (by decide)) bz .nil pass0 rfl) (pa_cons (pe_op op_add (pe_prop (pv 0) T.cl T.pr Gz (hr.mono (by decide)) bz .nil pass0 rfl) pe_int) pa_nil)))))
      (pss_cons (ps_if (PW.pt (pw_or (pt_cmpR op_ne (pv 4) (pe_dget hu (pv 2) (pv 3) (fun _ _ => rfl)) (nomark _)) (pw_or1 (pt_cmpR op_notIn_seq (pv 4) (pv 6) (by rfl))))) (pss_one (ps_ret pe_bl)) pss_nil)
      (pss_cons (ps_setLc (i := 7) (own := [("one", 8)]) (g := gName 8) (tt := tYes) rfl scHeld.nd rfl rfl (sw_true rfl rfl rfl (by decide +kernel)) (pi_list (pe_slice sl_list (pv 6) po_none (po_some (pe_bm PySem.F.plainAttrs_list PySem.F.slot_list_index PySem.F.type_list_index mt_index (pv 6) (pa_cons (pv 4) pa_nil)))))
        (blkOk_by (own := [("one", 8)]) (N := NH) (sc := defScope sHeld) (by decide +kernel)) (fun _ _ _ _ _ => pg_name (i := 8) scHeld.nd rfl (Or.inl rfl)) (fun _ _ _ _ _ => pts_nil) (fun _ _ _ _ _ => pe_meth (pv 0) T.cl mv Gv (hr.mono (by decide)) bv .nil pass0 (pa_cons (pv 8) pa_nil)))
      (pss_one (ps_if (PW.pt (pw_or (pt_cmpR op_in_seq (pe_un un_neg pe_int) (pv 7) (by rfl)) (pw_or (pt_cmpR op_ne (pe_meth (pv 0) T.cl mv Gv (hr.mono (by decide)) bv .nil pass0 (pa_cons (pv 4) pa_nil)) (pv 3) (nomark _)) (pw_or1 (pt_cmpR op_notIn_seq (pv 4) (pe_meth (pv 0) T.cl mt Gt (hr.mono (by decide)) bt .nil pass0 (pa_cons (pv 5) pa_nil)) (by rfl)))))) (pss_one (ps_ret pe_bl)) pss_nil))))))))
      (pss_one (ps_ret (pe_cmpR op_eq (pe_op op_add (pe_meth (pv 0) T.cl mc Gc (hr.mono (by decide)) bc .nil pass0 (pa_cons (pe_un un_neg pe_int) pa_nil)) (pe_meth (pv 0) T.cl mc Gc (hr.mono (by decide)) bc .nil pass0 (pa_cons (pe_un un_neg pe_int) pa_nil)))
        (pe_op op_sub (pe_prop (pv 0) T.cl T.pr Gz (hr.mono (by decide)) bz .nil pass0 rfl) (pe_callB call_lenD (by rfl) B.len PySem.boot_len (pa_cons (pv 2) pa_nil))) (nomark _)))), ?_⟩
    have npe : p ≠ e := ne_of hp he (by intro z; cases z)
    have nle : l ≠ e := ne_of t.ls he (by intro z; cases z)
    have nqe : q ≠ e := ne_of hq he (by intro z; cases z)
    refine ⟨e, .dK (psK ps), he, trivial, fun od => ?_⟩
    let St : Hp → Prop := fun H' => (∀ b o, b ≠ e → H b = some o → H' b = some o) ∧ H' e = some (.frz od (.dK (psK ps)))
    have stN : ∀ {H' : Hp} {a : Addr} {o : HO}, St H' → H' a = none → St (upd H' a o) := fun {H' a o} h ha => by
      refine ⟨fun b u hb eb => ?_, ?_⟩
      · have := h.1 b u hb eb
        rw [upd_ne (ne_of_none this ha)]
        exact this
      · rw [upd_ne (ne_of_none h.2 ha)]
        exact h.2
    have sP : ∀ {H'}, St H' → H' p = some (.ins C dx [("_slots", .ref l)]) := fun h => h.1 _ _ npe hp
    have sT : ∀ {H'}, St H' → TabAt C H' p l xs := fun h => ⟨⟨dx, sP h⟩, h.1 _ _ nle t.ls⟩
    have sQ : ∀ {H'}, St H' → H' q = some (.lst (cs.map nV)) := fun h => h.1 _ _ nqe hq
    have st0 : St (upd H e (.frz od (.dK (psK ps)))) := ⟨fun b o hb eb => by rw [upd_ne hb]; exact eb, upd_same⟩
    refine ⟨_, rfl, e, od, rfl, .inl ⟨_, upd_same, for_keysL (fun i σ H' => (∃ v3 v4 v5 v6 v7 v8, σ = [some (.ref p), some (.ref q), some (.ref e), v3, v4, v5, v6, v7, v8]) ∧ St H') ⟨⟨_, _, _, _, _, _, rfl⟩, st0⟩ (fun i σ H' _ ⟨_, st⟩ => st.2) ?_ ?_⟩⟩
    · rintro i k' v' σ H1 hi ⟨⟨v3, v4, v5, v6, v7, v8, rfl⟩, st1⟩
      obtain ⟨ix, s', rfl, rfl, hm⟩ := psK_at hi
      obtain ⟨c, hc, _⟩ := g.way ix s' hm
      have hc2 := g.cd c (List.mem_of_getElem? hc)
      have hcat : atI (cs.map nV) (ix : Int) = some (nV c) := atI_nat (by rw [List.getElem?_map, hc]; rfl)
      -- slot, code = ..
      refine ⟨_, rfl, p, dx, _, rfl, sP st1, rfl, _, rfl, _, rfl, q, _, _, _, rfl, rfl, SqL.of (sQ st1), hcat, _, rfl, p, l, xs, c, ix, rfl, sT st1, hc2, g.sz, fun a1 ha1 => ?_⟩
      rw [g.found hm hc]
      have st2 := stN (o := .lst ((trailOf xs c).map nV)) st1 ha1
      refine ⟨_, rfl, _, rfl, q, _, _, _, rfl, rfl, SqL.of (sQ st2), hcat, _, _, rfl, ?_⟩
      generalize upd H1 a1 (.lst ((trailOf xs c).map nV)) = H2 at st2
      -- way = ..
      refine ⟨_, rfl, _, rfl, p, dx, _, rfl, sP st2, p, l, xs, rfl, sT st2, _, rfl, p, dx, _, rfl, sP st2, p, l, xs, rfl, sT st2, _, _, rfl, rfl, c, xs.length, xs.length + 6, rfl, hc2, g.sz, by omega, fun a2 ha2 => ?_⟩
      have st3 := stN (o := .lst ((K12.first c xs.length (xs.length + 6)).map nV)) st2 ha2
      have hw3 : upd H2 a2 (.lst ((K12.first c xs.length (xs.length + 6)).map nV)) a2 = some (.lst ((K12.first c xs.length (xs.length + 6)).map nV)) := upd_same
      generalize upd H2 a2 (.lst ((K12.first c xs.length (xs.length + 6)).map nV)) = H3 at st3 hw3
      obtain ⟨j, hj, hwj, hmin⟩ := g.inWay hm hc
      -- if slot != places[index] or slot not in way
      have hget : DGet H3 e (.int (ix : Int)) (some (.int (s' : Int))) := .inl ⟨psK ps, Sum.inl (ix : Int), .inr ⟨od, st3.2⟩, rfl, (psK_get g.nd hm).symm⟩
      refine ⟨_, rfl, _, rfl, _, rfl, e, _, rfl, hget, rfl, _, rfl, iteNo (by simp) ?_⟩
      have hinw : s' ∈ K12.first c xs.length (xs.length + 6) := List.mem_of_getElem? hwj
      refine ⟨_, rfl, _, rfl, a2, _, rfl, .inl (SqL.of hw3), rfl, flat_nV _, _, rfl, iteNo ?_ ?_⟩
      · show (if true then !inV (.int (s' : Int)) _ else _) = false
        rw [in_nV, decide_eq_true hinw]
        rfl
      -- ahead = ..
      refine ⟨_, rfl, _, rfl, .inl ⟨rfl, _, SqL.of hw3⟩, _, rfl, a2, _, _, j, nV s', rfl, rfl, SqL.of hw3, rfl, flat_nV _, by rw [List.getElem?_map, hwj]; rfl, beq_self_eq_true _, fun m z' hm2 hz' => ?_, _, rfl, a2, _, rfl, SqL.of hw3, fun a3 ha3 => ?_⟩
      · obtain ⟨x, hx, hne, _⟩ := hmin m hm2
        rw [List.getElem?_map, hx] at hz'
        obtain rfl := Option.some.inj hz'
        exact beq_eq_false_iff_ne.mpr fun z => hne (by have z : (x : Int) = (s' : Int) := z; omega)
      rw [cut_take]
      have st4 := stN (o := .lst (((K12.first c xs.length (xs.length + 6)).take j).map nV)) st3 ha3
      have h4 : upd H3 a3 (.lst (((K12.first c xs.length (xs.length + 6)).take j).map nV)) a3 = some (.lst (((K12.first c xs.length (xs.length + 6)).take j).map nV)) := upd_same
      generalize upd H3 a3 (.lst (((K12.first c xs.length (xs.length + 6)).take j).map nV)) = H4 at st4 h4
      refine ⟨a3, rfl, ⟨_, SqL.of h4⟩, fun a4 ha4 => lc_list (K := K) (a := a3) (xs := ((K12.first c xs.length (xs.length + 6)).take j).map nV) (fun i H' => ∃ acc : List Int, H' = upd H4 a4 (.lst (acc.map V.int)) ∧ acc.length = i ∧ ∀ v ∈ acc, v ≠ -1) ⟨[], rfl, rfl, fun v h => by cases h⟩ ?_ ?_ ?_⟩
      · rintro i H' _ ⟨acc, rfl, _⟩
        exact (same_new ha4).seq (SqL.of h4)
      · rintro i y H' hy ⟨acc, rfl, hl, hacc⟩
        rw [List.getElem?_map] at hy
        obtain ⟨y', hy', rfl⟩ := Option.map_eq_some_iff.mp hy
        have hij : i < j := by
          have := (List.getElem?_eq_some_iff.mp hy').1
          rw [List.length_take] at this
          omega
        rw [List.getElem?_take_of_lt hij] at hy'
        obtain ⟨x, hx, _, v, hv, hv1⟩ := hmin i hij
        rw [hy'] at hx
        obtain rfl := Option.some.inj hx
        have st5 := stN (o := .lst (acc.map V.int)) st4 ha4
        refine ⟨rfl, ?_⟩
        unfold tYes
        refine iteT ?_
        refine ⟨_, rfl, p, dx, _, rfl, sP st5, rfl, _, rfl, p, l, xs, y', v, rfl, sT st5, hv, acc.map V.int, upd_same, by rw [List.length_map]; exact Nat.lt_of_lt_of_le (show acc.length < 5000 by omega) (by decide), acc ++ [v], ?_, ?_, ?_⟩
        · rw [upd_upd, List.map_append]
          rfl
        · rw [List.length_append, hl]
          rfl
        · intro z hz
          rcases List.mem_append.mp hz with h | h
          · exact hacc z h
          · rw [List.mem_singleton.mp h]
            exact hv1
      · rintro H' ⟨acc, rfl, _, hacc⟩
        have st5 := stN (o := .lst (acc.map V.int)) st4 ha4
        have h5 : upd H4 a4 (.lst (acc.map V.int)) a4 = some (.lst (acc.map V.int)) := upd_same
        generalize upd H4 a4 (.lst (acc.map V.int)) = H5 at st5 h5
        -- if -1 in ahead or ..
        refine ⟨_, rfl, _, rfl, a4, _, rfl, .inl (SqL.of h5), rfl, flat_int _, _, rfl, iteNo ?_ ?_⟩
        · show (if false then _ else inV (.int (-1)) _) = false
          rw [in_int]
          exact decide_eq_false fun h => hacc _ h rfl
        refine ⟨_, rfl, p, dx, _, rfl, sP st5, rfl, _, rfl, p, l, xs, s', ix, rfl, sT st5, g.at_ ix s' hm, _, rfl, rfl, _, rfl, iteNo (by simp; rfl) ?_⟩
        refine ⟨_, rfl, _, rfl, p, dx, _, rfl, sP st5, rfl, _, rfl, p, l, xs, c, rfl, sT st5, hc2, g.sz, fun a6 ha6 => ?_⟩
        refine ⟨a6, _, rfl, .inl (SqL.of upd_same), rfl, flat_nV _, _, rfl, iteNo ?_ ?_⟩
        · show (if true then !inV (.int (s' : Int)) _ else _) = false
          rw [in_nV, decide_eq_true (g.trail hm hc)]
          rfl
        exact ⟨⟨_, _, _, _, _, _, rfl⟩, stN st5 ha6⟩
    · rintro σ H' ⟨⟨v3, v4, v5, v6, v7, v8, rfl⟩, st⟩
      refine ⟨st.2, ?_⟩
      have sm : Same H (upd H' e (.dK (psK ps))) := fun b o eb => by
        by_cases hb : b = e
        · subst hb
          rw [upd_same, ← eb, he]
        · rw [upd_ne hb]
          exact st.1 b o hb eb
      have t' := t.same sm
      have hp' := sm _ _ hp
      refine ⟨_, rfl, p, dx, _, rfl, hp', rfl, _, rfl, p, l, xs, -1, rfl, t', by decide, ?_⟩
      refine ⟨_, rfl, p, dx, _, rfl, hp', rfl, _, rfl, p, l, xs, -2, rfl, t', by decide, _, _, rfl, rfl, ?_⟩
      refine ⟨_, rfl, p, dx, _, rfl, hp', p, l, xs, rfl, t', _, rfl, e, _, rfl, upd_same, _, _, rfl, rfl, rfl, ?_⟩
      have e1 : ((xs.count (-1) : Nat) : Int) + ((xs.count (-2) : Nat) : Int) = (xs.length : Int) - ((psK ps).length : Int) := by
        have := g.neg
        unfold psK
        rw [List.length_map]
        omega
      exact Eq.mpr (congrArg (fun b => Q (V.bl b) (upd H' e (.dK (psK ps)))) (decide_eq_true (congrArg V.int e1))) (k _ sm)
end
end K14
set_option Elab.async false
set_option linter.all false
set_option maxRecDepth 100000
namespace K14
open PySem L2
/-- a dict against {} -/
def rNeE : R2 := fun x y H Q => ∃ a b ks, x = .ref a ∧ y = .ref b ∧ H a = some (.dK ks) ∧ H b = some (.dK []) ∧ Q (.bl (!ks.isEmpty)) H
theorem op_ne_empty {X : Cx} (hu : X.A.units < cLine) : OpR X (compareOp .NotEq) rNeE := by
  intro pins s σ H x y v u Q I rx ry h
  obtain ⟨a, b, ks, rfl, rfl, ea, eb, q⟩ := h
  obtain rfl : v = Value.ref a := rx
  obtain rfl : u = Value.ref b := ry
  obtain ⟨_, ya, va, ra, da⟩ := (show ObjOk X.prog X.w H s.heap a (.dK ks) from I.hok a _ ea)
  obtain ⟨_, yb, vb, rb, db⟩ := (show ObjOk X.prog X.w H s.heap b (.dK []) from I.hok b _ eb)
  have hl : vb.length = 0 := by rw [← rb.length]; rfl
  have hk : va.length = ks.length := by rw [← ra.length]
  refine PySem.W.keq_ne (knd := mixKind X.prog X.w) (r := true) ya yb da db hu (fun e => ?_) (fin_bl I q ?_)
  · have : ks = [] := List.eq_nil_of_length_eq_zero (by omega)
    subst this
    exact hits_all rb ra fun p hp => by cases hp
  · rw [hk, hl]
    cases ks with
    | nil => rfl
    | cons a b => simp
theorem psK_put {ps : List (Nat × Nat)} {k s : Nat} (h : ∀ i s', (i, s') ∈ ps → i < k) : putK (psK ps) (Sum.inl (k : Int)) (.int (s : Int)) = psK (ps ++ [(k, s)]) := by
  unfold putK psK
  rw [if_neg ?_, List.map_append]
  · rfl
  · intro z
    rw [List.any_eq_true] at z
    obtain ⟨x, hx, e⟩ := z
    obtain ⟨⟨i, s'⟩, hm, rfl⟩ := List.mem_map.mp hx
    have := Sum.inl.inj (of_decide_eq_true e)
    have := h i s' hm
    have : (i : Int) = (k : Int) := by assumption
    omega
theorem psK_drop {ps : List (Nat × Nat)} {k : Nat} : dropK (psK ps) (Sum.inl (k : Int)) = psK (dropP ps k) := by
  unfold dropK psK dropP
  rw [List.filter_map]
  congr 1
  refine List.filter_congr fun p _ => ?_
  show decide ((Sum.inl (p.1 : Int) : Key) ≠ Sum.inl (k : Int)) = decide (p.1 ≠ k)
  rw [Bool.eq_iff_iff, decide_eq_true_iff, decide_eq_true_iff]
  constructor
  · intro h e
    exact h (by rw [e])
  · intro h e
    have := Sum.inl.inj e
    omega
theorem psK_keys (ps : List (Nat × Nat)) : (psK ps).map (·.1) = (ps.map fun p => (p.1 : Int)).map Sum.inl := by
  unfold psK
  rw [List.map_map, List.map_map]
  rfl
theorem at_last {xs : List V} {x : V} : atI (xs ++ [x]) (-1) = some x := by
  unfold atI ixN
  rw [if_neg (by decide), if_pos (by rw [List.length_append]; show -(((xs.length + 1 : Nat)) : Int) ≤ -1; omega)]
  show (xs ++ [x])[(-1 + (((xs ++ [x]).length : Nat) : Int)).toNat]? = some x
  rw [show (-1 + (((xs ++ [x]).length : Nat) : Int)).toNat = xs.length by rw [List.length_append]; show (-1 + ((xs.length + 1 : Nat) : Int)).toNat = _; omega]
  simp
theorem pick5 (n : Nat) (h : n < 5) : ∃ z : Nat, goodSize z ∧ ([V.int 8, .int 8, .int 16, .int 32, .int 64] : List V)[n]? = some (nV z) := by
  match n, h with
  | 0, _ => exact ⟨8, by unfold goodSize sizesI; decide, rfl⟩
  | 1, _ => exact ⟨8, by unfold goodSize sizesI; decide, rfl⟩
  | 2, _ => exact ⟨16, by unfold goodSize sizesI; decide, rfl⟩
  | 3, _ => exact ⟨32, by unfold goodSize sizesI; decide, rfl⟩
  | 4, _ => exact ⟨64, by unfold goodSize sizesI; decide, rfl⟩
theorem good_start {z : Nat} (h : goodSize z) : Good [] [] (List.replicate z (-1)) := by
  refine ⟨by rw [List.length_replicate]; exact h, fun c hc => (by cases hc), List.nodup_nil, fun v hv => ?_, fun s v hs hv => ?_, fun i s hm => (by cases hm), fun i s hm => (by cases hm), ?_⟩
  · have := (List.mem_replicate.mp hv).2
    omega
  · have := (List.mem_replicate.mp (List.mem_of_getElem? hs)).2
    omega
  · rw [List.count_replicate_self, List.count_replicate, if_neg (by decide), List.length_replicate]
    rfl
/-- which objects the law holds -/
structure Ad (p l q e d g : Addr) : Prop where
  de : d ≠ e
  gq : g ≠ q
  gl : g ≠ l
  ql : q ≠ l
structure LS (C : Addr) (H : Hp) (p l q e d g : Addr) (cs : List Nat) (ps : List (Nat × Nat)) (xs : List Int) : Prop where
  tb : TabAt C H p l xs
  cq : H q = some (.lst (cs.map nV))
  ce : H e = some (.dK (psK ps))
  dr : DrawE H d g
  gd : Good cs ps xs
theorem LS.same {C p l q e d g : Addr} {H H' : Hp} {cs : List Nat} {ps : List (Nat × Nat)} {xs : List Int} (h : LS C H p l q e d g cs ps xs) (s : Same H H') : LS C H' p l q e d g cs ps xs :=
  ⟨h.tb.same s, s _ _ h.cq, s _ _ h.ce, h.dr.same s, h.gd⟩
theorem LS.kept {C p l q e d g : Addr} {H H' : Hp} {cs : List Nat} {ps : List (Nat × Nat)} {xs : List Int} (A : Ad p l q e d g) (h : LS C H p l q e d g cs ps xs) (k : Kept H H' d g) (dr : DrawE H' d g) : LS C H' p l q e d g cs ps xs := by
  obtain ⟨⟨⟨dx, hp⟩, hl⟩, cq, ce, ⟨r, t, gs, dc, gl, _, _⟩, gd⟩ := h
  refine ⟨⟨⟨dx, k _ _ hp (ne_of hp dc (by intro z; cases z)) (ne_of hp gl (by intro z; cases z))⟩, k _ _ hl (ne_of hl dc (by intro z; cases z)) A.gl.symm⟩, k _ _ cq (ne_of cq dc (by intro z; cases z)) A.gq.symm, k _ _ ce A.de.symm (ne_of ce gl (by intro z; cases z)), dr, gd⟩
section
variable {P : Program} {w : World} {K : PySem.W.Frag} {mg : Str → Option Value} {base : Heap}
def spLaw (K : PySem.W.Frag) : Sp := fun vs H Q _ => ∃ (a : Addr) (ns : List Int), vs = [.ref a] ∧ SqL K H a (ns.map V.int) ∧ ns.length ≤ 63 ∧ ∀ H', Q (.bl true) H'
theorem scLaw : FnScope ["script", "draw", "size", "table", "codes", "places", "turn", "index"] ["script"] (defScope sLaw) := ⟨rfl, rfl, rfl, by decide +kernel, rfl, by decide +kernel, by decide +kernel⟩
theorem ok_law {f fb fn fc fh fk C fi pz gz : Addr} {fd fdb fdn fdc fdh fdk fdi : FuncData} (F : Fun K "law" "law" sLaw f fd) (B : Bl mg) (M : Ms P w K mg base C pz gz)
    (Db : Df K mg "_law_begun" "_law_begun" sBegun ["script"] fb fdb) (Gb : FnOk P w K mg base CX0 1 fb fdb ["script"] (spBegun K))
    (Dn : Df K mg "_law_next" "_law_next" sNext ["draw", "below"] fn fdn) (Gn : FnOk P w K mg base CX0 1 fn fdn ["draw", "below"] spNext)
    (Dc : Df K mg "_law_code" "_law_code" sLCode ["draw", "size"] fc fdc) (Gc : FnOk P w K mg base CX0 2 fc fdc ["draw", "size"] spLCode)
    (Dh : Df K mg "_law_held_right" "_law_held_right" sHeld ["table", "codes", "places"] fh fdh) (Gh : FnOk P w K mg base CX0 10 fh fdh ["table", "codes", "places"] (spHeld C))
    (Dk : Df K mg "capacity" "capacity" sCap ["size"] fk fdk) (Gk : FnOk P w K mg base CX0 4 fk fdk ["size"] spCap)
    (Mi : Mk K C fi) (bi : Binds K fdi ["self", "size"] []) (Gi : FnOk P w K mg base CX0 4 fi fdi ["self", "size"] (spInit C)) : FnOk P w K mg base CX0 11 f fd ["script"] (spLaw K) := by
  obtain ⟨fp, fdp, mp, bp, Gp⟩ := M.plc
  obtain ⟨fe, fde, me, be, Ge⟩ := M.era
  obtain ⟨fs, fds, ms, bs, Gs⟩ := M.slo
  have T := M.T
  refine F.ok scLaw (fun vs H Q E h => ?_) (fun cdv A outer s H vs Q E hr h => ?_)
  · obtain ⟨a, ns, rfl, _⟩ := h
    rfl
  · obtain ⟨a, ns, rfl, hS, hlen, k⟩ := h
    have hu := hu_of hr
    have hu0 : _ < cLine := Nat.lt_of_le_of_lt (Nat.le_add_right _ _) hu
    have tN : ∀ {X : Cx}, True := fun {X} => trivial
    refine ⟨_, pss_cons (ps_set (i := 1) scLaw.nd rfl (Or.inl rfl) (pe_call Gb (hr.mono (by decide)) rfl Db.g Db.F.kp Db.b .nil pass0 (pa_cons (pv 0) pa_nil)))
      (pss_cons (ps_set (i := 2) scLaw.nd rfl (Or.inl rfl) (pe_ix ix_list (pe_lst (pa_cons pe_int (pa_cons pe_int (pa_cons pe_int (pa_cons pe_int (pa_cons pe_int pa_nil)))))) (pe_call Gn (hr.mono (by decide)) rfl Dn.g Dn.F.kp Dn.b .nil pass0 (pa_cons (pv 1) (pa_cons pe_int pa_nil))) (fun _ _ => rfl)))
      (pss_cons (ps_par3 (i := 3) (j := 4) (l := 5) rfl scLaw.nd rfl rfl rfl (by decide) (by decide) (by decide) rfl rfl rfl (pa_cons (pe_make Mi Gi (hr.mono (by decide)) rfl T.mgC bi .nil pass0 (pa_cons (pv 2) pa_nil)) (pa_cons (pe_lst pa_nil) (pa_cons pe_dnewK pa_nil))) rfl)
      (pss_cons (ps_for PassesOwn.never rfl (pi_range1 rfl B.range (pa_cons (pe_op op_add pe_int (pe_callB (call_min2 rfl) (by rfl) B.min (by decide +kernel) (pa_cons pe_int (pa_cons (pe_callB call_len_seq (by rfl) B.len PySem.boot_len (pa_cons (pv 0) pa_nil)) pa_nil)))) pa_nil)) (pg_name (i := 6) scLaw.nd rfl (Or.inl rfl))
        (pss_cons (ps_if (PW.pt (pw_and (pt_cmpR op_lt (pe_callB call_lenD (by rfl) B.len PySem.boot_len (pa_cons (pv 5) pa_nil)) (pe_call Gk (hr.mono (by decide)) rfl Dk.g Dk.F.kp Dk.b .nil pass0 (pa_cons (pv 2) pa_nil)) (nomark _))
            (pw_and1 (pt_cmpR op_gt (pe_call Gn (hr.mono (by decide)) rfl Dn.g Dn.F.kp Dn.b .nil pass0 (pa_cons (pv 1) (pa_cons pe_int pa_nil))) pe_int (nomark _)))))
          (pss_cons (ps_expr (pe_bm PySem.F.plainAttrs_list PySem.F.slot_list_append PySem.F.type_list_append mt_append (pv 4) (pa_cons (pe_call Gc (hr.mono (by decide)) rfl Dc.g Dc.F.kp Dc.b .nil pass0 (pa_cons (pv 1) (pa_cons (pv 2) pa_nil))) pa_nil)))
          (pss_one (ps_dput hu (pv 5) (pe_op op_sub (pe_callB call_len_seq (by rfl) B.len PySem.boot_len (pa_cons (pv 4) pa_nil)) pe_int)
            (pe_meth (pv 3) T.cl mp Gp (hr.mono (by decide)) bp .nil pass0 (pa_cons (pe_ix ix_list (pv 4) (pe_un un_neg pe_int) (fun _ _ => rfl)) (pa_cons (pe_op op_sub (pe_callB call_len_seq (by rfl) B.len PySem.boot_len (pa_cons (pv 4) pa_nil)) pe_int) pa_nil))) rfl)))
          (pss_one (ps_if (pt_cmpR (op_ne_empty hu0) (pv 5) pe_dnewK (nomark _))
            (pss_cons (ps_set (i := 7) scLaw.nd rfl (Or.inl rfl) (pe_ix ix_list (pe_callB (call_sortedDI rfl) (by rfl) B.sorted (by decide +kernel) (pa_cons (pv 5) pa_nil)) (pe_call Gn (hr.mono (by decide)) rfl Dn.g Dn.F.kp Dn.b .nil pass0 (pa_cons (pv 1) (pa_cons (pe_callB call_lenD (by rfl) B.len PySem.boot_len (pa_cons (pv 5) pa_nil)) pa_nil))) (fun _ _ => rfl)))
            (pss_one (ps_if (PW.pt (pw_or (pt_cmpR op_ne (pe_meth (pv 3) T.cl me Ge (hr.mono (by decide)) be .nil pass0 (pa_cons (pe_dpop1 (pv 5) (pv 7) ⟨rfl, rfl, rfl, rfl⟩) pa_nil)) (pv 7) (nomark _))
                (pw_or1 (pt_cmp (pc_notN (pe_meth (pv 3) T.cl ms Gs (hr.mono (by decide)) bs .nil pass0 (pa_cons (pe_ix ix_list (pv 4) (pv 7) (fun _ _ => rfl)) (pa_cons (pv 7) pa_nil))))))))
              (pss_one (ps_ret pe_bl)) pss_nil))) pss_nil)))
        (pss_one (ps_if (pt_not (pt_val (pe_call Gh hr rfl Dh.g Dh.F.kp Dh.b .nil pass0 (pa_cons (pv 3) (pa_cons (pv 4) (pa_cons (pv 5) pa_nil)))))) (pss_one (ps_ret pe_bl)) pss_nil))))
      (pss_one (ps_ret pe_bl))))), ?_⟩
    -- draw = _law_begun(script)
    refine ⟨_, rfl, a, ns, rfl, hS, hlen, fun d g H1 de sm hd0 hg0 => ?_⟩
    -- size = ..
    refine ⟨by show 5 ≤ sizeLine; decide, fun L hL => ?_⟩
    refine ⟨_, rfl, d, g, 5, rfl, de.same (same_new hL), by decide, by decide, fun n H2 hn de2 kp2 => ?_⟩
    obtain ⟨z, hz, ez⟩ := pick5 n hn
    have h8 := hz.pos
    have sm2 : Same H H2 := fun b o eb => by
      refine kp2 b o (same_new hL b o (sm b o eb)) ?_ ?_
      · rintro rfl
        rw [hd0] at eb
        cases eb
      · rintro rfl
        rw [hg0] at eb
        cases eb
    obtain ⟨r, t, gs, dr⟩ := id de
    have hL2 := kp2 L _ upd_same (ne_of_none dr.dc hL).symm (ne_of_none dr.gl hL).symm
    refine ⟨L, _, (n : Int), _, rfl, rfl, SqL.of hL2, atI_nat ez, ?_⟩
    -- table, codes, places = ..
    refine ⟨_, rfl, fun p dx nx ndx nex => ⟨p, dx, (z : Int), rfl, upd_same, hz, fun l0 l h0 hl nl np0 np => ⟨rfl, ?_⟩⟩⟩
    refine ⟨by show 0 ≤ sizeLine; decide, fun q hq e he => ⟨_, _, _, rfl, ?_⟩⟩
    rw [show (z : Int).toNat = z by omega] at hq he ⊢
    generalize hHA : upd (upd H2 dx (.own p)) p (.ins C dx []) = HA at h0 hl hq he ⊢
    have smA : Same H2 HA := fun b o eb => by
      rw [← hHA, upd_ne (ne_of_none eb nx), upd_ne (ne_of_none eb ndx)]
      exact eb
    generalize hHB : upd (upd (upd HA l0 (.lst [.int (-1)])) l (.lst ((List.replicate z (-1 : Int)).map V.int))) p (.ins C dx [("_slots", .ref l)]) = HB at hq he ⊢
    have smB : Same H2 HB := fun b o eb => by
      have := smA b o eb
      rw [← hHB, upd_ne (ne_of_none eb nx), upd_ne (ne_of_none this hl), upd_ne (ne_of_none this h0)]
      exact this
    have pB : HB p = some (.ins C dx [("_slots", .ref l)]) := by rw [← hHB, upd_same]
    have lB : HB l = some (.lst ((List.replicate z (-1 : Int)).map V.int)) := by rw [← hHB, upd_ne np.symm, upd_same]
    have sm3 := same_new (o := .lst []) hq
    have sm4 := same_new (o := .dK []) he
    have qC : upd HB q (.lst []) q = some (.lst []) := upd_same
    generalize hHC : upd HB q (.lst []) = HC at he sm3 sm4 qC
    have eD : upd HC e (.dK []) e = some (.dK []) := upd_same
    generalize upd HC e (.dK []) = HD at sm4 eD
    have sm5 : Same H HD := sm2.trans (smB.trans (sm3.trans sm4))
    obtain ⟨r2, t2, gs2, dr2⟩ := id de2
    have A4 : Ad p l q e d g := ⟨ne_of_none (sm3 _ _ (smB _ _ dr2.dc)) he, ne_of_none (smB _ _ dr2.gl) hq, ne_of_none (smA _ _ dr2.gl) hl, (ne_of_none lB hq).symm⟩
    have ls0 : LS C HD p l q e d g [] [] (List.replicate z (-1)) := ⟨⟨⟨dx, sm4 _ _ (sm3 _ _ pB)⟩, sm4 _ _ (sm3 _ _ lB)⟩, sm4 _ _ qC, eD, de2.same (smB.trans (sm3.trans sm4)), good_start hz⟩
    -- for turn in range(..)
    refine ⟨_, rfl, a, _, rfl, .inl (sm5.seq hS), _, _, rfl, _, _, rfl, rfl, _, rfl, (by split <;> omega), (by split <;> omega), for_range (fun i σ H' => ∃ (cs : List Nat) (ps : List (Nat × Nat)) (xs : List Int) (v6 v7 : Option V), σ = [some (.ref a), some (.ref d), some (.int (z : Int)), some (.ref p), some (.ref q), some (.ref e), v6, v7] ∧ LS C H' p l q e d g cs ps xs ∧ xs.length = z ∧ cs.length ≤ i) ⟨[], [], _, none, none, rfl, ls0, List.length_replicate, Nat.le_refl _⟩ ?_ ?_⟩
    · rintro i σ H' hi ⟨cs, ps, xs, v6, v7, rfl, ls, hxl, hcl⟩
      have hi48 : i < 48 := by
        split at hi <;> omega
      have hlk0 : (psK ps).length = ps.length := by
        unfold psK
        rw [List.length_map]
      have hpl : ps.length < 64 := by
        have h1 : ∀ x ∈ ps.map (·.1), x < cs.length := fun x hx => by
          obtain ⟨⟨i', s'⟩, hm, rfl⟩ := List.mem_map.mp hx
          obtain ⟨c', hc', _⟩ := ls.gd.way i' s' hm
          exact (List.getElem?_eq_some_iff.mp hc').1
        have h2 := K12.len_le cs.length _ ls.gd.nd h1
        rw [List.length_map] at h2
        omega
      refine ⟨_, rfl, e, _, rfl, ls.ce, _, rfl, (z : Int), rfl, hz, _, _, rfl, rfl, _, rfl, ite2 (fun ecap => ?_) (fun _ => ?_)⟩
      · refine ⟨_, rfl, d, g, 3, rfl, ls.dr, by decide, by decide, fun n1 H1' hn1 de1 kp1 => ?_⟩
        have ls1 := ls.kept A4 kp1 de1
        refine ⟨_, _, rfl, rfl, _, rfl, ite2 (fun _ => ?_) (fun _ => ?_)⟩
        · -- codes.append(..)
          refine ⟨_, rfl, .inl ⟨rfl, _, SqL.of ls1.cq⟩, _, rfl, _, rfl, d, g, z, rfl, ls1.dr, hz, fun c H3 hc de3 kp3 => ?_⟩
          have ls3 := ls1.kept A4 kp3 de3
          refine ⟨q, _, _, rfl, rfl, ls3.cq, by rw [List.length_map]; exact Nat.lt_of_lt_of_le (show cs.length < 5000 by omega) (by decide), ?_⟩
          obtain ⟨dx3, hp3⟩ := ls3.tb.ob
          have nqp : p ≠ q := ne_of hp3 ls3.cq (by intro z; cases z)
          have npe : p ≠ e := ne_of hp3 ls3.ce (by intro z; cases z)
          have nle : l ≠ e := ne_of ls3.tb.ls ls3.ce (by intro z; cases z)
          have nqe : q ≠ e := ne_of ls3.cq ls3.ce (by intro z; cases z)
          have npl : p ≠ l := ne_of hp3 ls3.tb.ls (by intro z; cases z)
          have hp3' : upd H3 q (.lst (cs.map nV ++ [V.int (c : Int)])) p = some (.ins C dx3 [("_slots", .ref l)]) := by rw [upd_ne nqp]; exact hp3
          have tb3' : TabAt C (upd H3 q (.lst (cs.map nV ++ [V.int (c : Int)]))) p l xs := ⟨⟨dx3, hp3'⟩, by rw [upd_ne A4.ql.symm]; exact ls3.tb.ls⟩
          have hlen1 : (((cs.map nV ++ [V.int (c : Int)]).length : Nat) : Int) - 1 = (cs.length : Int) := by
            rw [List.length_append, List.length_map]
            show ((cs.length + 1 : Nat) : Int) - 1 = _
            omega
          obtain ⟨j, fa⟩ := ls3.gd.free (show ps.length < xs.length by have := of_decide_eq_true ecap; omega) hc
          refine ⟨_, rfl, p, dx3, _, rfl, hp3', rfl, _, rfl, _, rfl, q, _, _, _, rfl, rfl, SqL.of upd_same, at_last, _, rfl, q, _, rfl, .inl (SqL.of upd_same), _, _, rfl, rfl, p, l, xs, c, j, cs.length, ?_, tb3', hc, ls3.gd.sz, fa, ?_⟩
          · rw [← hlen1]
            rfl
          refine ⟨_, rfl, _, rfl, q, _, rfl, .inl (SqL.of (by rw [upd_ne A4.ql, upd_same])), _, _, rfl, rfl, e, upd (upd (upd H3 q (.lst (cs.map nV ++ [V.int (c : Int)]))) l (.lst ((xs.set (sA xs.length c j) (cs.length : Int)).map V.int))) e (.dK (putK (psK ps) (Sum.inl (cs.length : Int)) (.int (sA xs.length c j : Nat)))), rfl, ?_, ?_⟩
          · dsimp only
            rw [hlen1]
            exact DPut.k (k := Sum.inl (cs.length : Int)) (by rw [upd_ne nle.symm, upd_ne nqe.symm]; exact ls3.ce) (by rw [hlk0]; exact small1000 (by omega))
          have ls5 : LS C (upd (upd (upd H3 q (.lst (cs.map nV ++ [V.int (c : Int)]))) l (.lst ((xs.set (sA xs.length c j) (cs.length : Int)).map V.int))) e (.dK (putK (psK ps) (Sum.inl (cs.length : Int)) (.int (sA xs.length c j : Nat))))) p l q e d g (cs ++ [c]) (ps ++ [(cs.length, sA xs.length c j)]) (xs.set (sA xs.length c j) (cs.length : Int)) := by
            obtain ⟨r', t', gs', d6⟩ := ls3.dr
            refine ⟨⟨⟨dx3, by rw [upd_ne npe, upd_ne npl]; exact hp3'⟩, by rw [upd_ne nle, upd_same]⟩, by rw [upd_ne nqe, upd_ne A4.ql, upd_same, List.map_append]; rfl, by rw [upd_same, psK_put fun i s hm => (List.getElem?_eq_some_iff.mp (ls3.gd.way i s hm).choose_spec.1).1], ⟨r', t', gs', ?_, ?_, d6.r0, d6.r1⟩, ls3.gd.place hc fa⟩
            · rw [upd_ne A4.de, upd_ne (ne_of d6.dc ls3.tb.ls (by intro z; cases z)), upd_ne (ne_of d6.dc ls3.cq (by intro z; cases z))]
              exact d6.dc
            · rw [upd_ne (ne_of d6.gl ls3.ce (by intro z; cases z)), upd_ne A4.gl, upd_ne A4.gq]
              exact d6.gl
          exact ⟨_, rfl, _, rfl, _, rfl, p, l, q, e, (cs ++ [c]), (ps ++ [(cs.length, sA xs.length c j)]), (xs.set (sA xs.length c j) (cs.length : Int)), rfl, ls5.tb, ls5.cq, ls5.ce, ls5.gd, fun H9 sm9 => ⟨true, rfl, iteF ⟨(cs ++ [c]), (ps ++ [(cs.length, sA xs.length c j)]), (xs.set (sA xs.length c j) (cs.length : Int)), _, _, rfl, ls5.same sm9, (by rw [List.length_set]; exact hxl), (by rw [List.length_append]; show cs.length + 1 ≤ _; omega)⟩⟩⟩
        · refine ⟨_, rfl, fun e2 he2 => ?_⟩
          have ls2 := ls1.same (same_new (o := .dK []) he2)
          refine ⟨e, e2, _, rfl, rfl, ls2.ce, upd_same, _, rfl, ?_⟩
          generalize upd H1' e2 (.dK []) = H5 at ls2
          by_cases hps : ps = []
          · refine iteNo (by rw [hps]; rfl) ?_
            exact ⟨_, rfl, _, rfl, _, rfl, p, l, q, e, cs, ps, xs, rfl, ls2.tb, ls2.cq, ls2.ce, ls2.gd, fun H9 sm9 => ⟨true, rfl, iteF ⟨cs, ps, xs, _, _, rfl, ls2.same sm9, hxl, (by omega)⟩⟩⟩
          · refine iteYes (by cases ps with | nil => exact absurd rfl hps | cons a b => rfl) ?_
            refine ⟨_, rfl, e, psK ps, ps.map fun p => (p.1 : Int), rfl, .inl ls2.ce, psK_keys ps, by rw [List.length_map]; omega, fun ys r perm _ hr0 => ?_⟩
            have ls3 := ls2.same (same_new (o := .lst (ys.map V.int)) hr0)
            have hlk : (psK ps).length = ps.length := by
              unfold psK
              rw [List.length_map]
            refine ⟨_, rfl, _, rfl, e, _, rfl, ls3.ce, d, g, (psK ps).length, rfl, ls3.dr, by rw [hlk]; exact List.length_pos_iff.mpr hps, by omega, fun n H6 hn de6 kp6 => ?_⟩
            have ls4 := ls3.kept A4 kp6 de6
            obtain ⟨dr, dt, dgs, dd⟩ := ls2.dr
            have hr6 := kp6 r _ upd_same (ne_of_none dd.dc hr0).symm (ne_of_none dd.gl hr0).symm
            have hny : n < ys.length := by
              have := perm.length_eq
              rw [List.length_map] at this
              omega
            obtain ⟨⟨ix, s'⟩, hm, ey⟩ := List.mem_map.mp (perm.mem_iff.mp (List.getElem_mem hny))
            have hyn : ys[n]? = some (ix : Int) := by
              rw [List.getElem?_eq_getElem hny, ← ey]
            refine ⟨r, _, (n : Int), _, rfl, rfl, SqL.of hr6, atI_nat (v := .int (ix : Int)) (by rw [List.getElem?_map, hyn]; rfl), ?_⟩
            obtain ⟨dx, hp4⟩ := ls4.tb.ob
            have npe : p ≠ e := ne_of hp4 ls4.ce (by intro z; cases z)
            have nle : l ≠ e := ne_of ls4.tb.ls ls4.ce (by intro z; cases z)
            have nqe : q ≠ e := ne_of ls4.cq ls4.ce (by intro z; cases z)
            have npl : p ≠ l := ne_of hp4 ls4.tb.ls (by intro z; cases z)
            have tb5 : TabAt C (upd H6 e (.dK (dropK (psK ps) (Sum.inl (ix : Int))))) p l xs := ⟨⟨dx, by rw [upd_ne npe]; exact hp4⟩, by rw [upd_ne nle]; exact ls4.tb.ls⟩
            obtain ⟨gd5, only⟩ := ls4.gd.erase hm
            obtain ⟨c, hc, _⟩ := ls4.gd.way ix s' hm
            refine ⟨_, rfl, p, dx, _, rfl, hp4, rfl, _, rfl, e, rfl, .inl ⟨_, .inl ls4.ce⟩, _, rfl, psK ps, Sum.inl (ix : Int), .int (s' : Int), ls4.ce, rfl, psK_get ls4.gd.nd hm, p, l, xs, s', ix, rfl, tb5, ls4.gd.at_ ix s' hm, by omega, _, rfl, rfl, _, rfl, iteNo (by simp) ?_⟩
            have ls6 : LS C (upd (upd H6 e (.dK (dropK (psK ps) (Sum.inl (ix : Int))))) l (.lst ((xs.set s' (-2)).map V.int))) p l q e d g cs (dropP ps ix) (xs.set s' (-2)) := by
              obtain ⟨r', t', gs', d6⟩ := ls4.dr
              refine ⟨⟨⟨dx, by rw [upd_ne npl, upd_ne npe]; exact hp4⟩, upd_same⟩, by rw [upd_ne A4.ql, upd_ne nqe]; exact ls4.cq, by rw [upd_ne nle.symm, upd_same, psK_drop], ⟨r', t', gs', ?_, ?_, d6.r0, d6.r1⟩, gd5⟩
              · rw [upd_ne (ne_of d6.dc ls4.tb.ls (by intro z; cases z)), upd_ne A4.de]
                exact d6.dc
              · rw [upd_ne A4.gl, upd_ne (ne_of d6.gl ls4.ce (by intro z; cases z))]
                exact d6.gl
            generalize upd (upd H6 e (.dK (dropK (psK ps) (Sum.inl (ix : Int))))) l (.lst ((xs.set s' (-2)).map V.int)) = H7 at ls6
            obtain ⟨dx6, hp6⟩ := ls6.tb.ob
            refine ⟨_, rfl, p, dx6, _, rfl, hp6, rfl, _, rfl, _, rfl, q, _, _, _, rfl, rfl, SqL.of ls6.cq, atI_nat (v := nV c) (by rw [List.getElem?_map, hc]; rfl), _, rfl, p, l, _, c, ix, rfl, ls6.tb, ls6.gd.cd c (List.mem_of_getElem? hc), ls6.gd.sz, fun r7 hr7 => ?_⟩
            rw [slot_none only]
            have ls8 := ls6.same (same_new (o := .lst ((trailOf (xs.set s' (-2)) c).map nV)) hr7)
            refine ⟨_, rfl, iteNo rfl ?_⟩
            exact ⟨_, rfl, _, rfl, _, rfl, p, l, q, e, cs, (dropP ps ix), (xs.set s' (-2)), rfl, ls8.tb, ls8.cq, ls8.ce, ls8.gd, fun H9 sm9 => ⟨true, rfl, iteF ⟨cs, (dropP ps ix), (xs.set s' (-2)), _, _, rfl, ls8.same sm9, (by rw [List.length_set]; exact hxl), (by omega)⟩⟩⟩
      · refine ⟨_, rfl, fun e2 he2 => ?_⟩
        have ls2 := ls.same (same_new (o := .dK []) he2)
        refine ⟨e, e2, _, rfl, rfl, ls2.ce, upd_same, _, rfl, ?_⟩
        generalize upd H' e2 (.dK []) = H5 at ls2
        by_cases hps : ps = []
        · refine iteNo (by rw [hps]; rfl) ?_
          exact ⟨_, rfl, _, rfl, _, rfl, p, l, q, e, cs, ps, xs, rfl, ls2.tb, ls2.cq, ls2.ce, ls2.gd, fun H9 sm9 => ⟨true, rfl, iteF ⟨cs, ps, xs, _, _, rfl, ls2.same sm9, hxl, (by omega)⟩⟩⟩
        · refine iteYes (by cases ps with | nil => exact absurd rfl hps | cons a b => rfl) ?_
          refine ⟨_, rfl, e, psK ps, ps.map fun p => (p.1 : Int), rfl, .inl ls2.ce, psK_keys ps, by rw [List.length_map]; omega, fun ys r perm _ hr0 => ?_⟩
          have ls3 := ls2.same (same_new (o := .lst (ys.map V.int)) hr0)
          have hlk : (psK ps).length = ps.length := by
            unfold psK
            rw [List.length_map]
          refine ⟨_, rfl, _, rfl, e, _, rfl, ls3.ce, d, g, (psK ps).length, rfl, ls3.dr, by rw [hlk]; exact List.length_pos_iff.mpr hps, by omega, fun n H6 hn de6 kp6 => ?_⟩
          have ls4 := ls3.kept A4 kp6 de6
          obtain ⟨dr, dt, dgs, dd⟩ := ls2.dr
          have hr6 := kp6 r _ upd_same (ne_of_none dd.dc hr0).symm (ne_of_none dd.gl hr0).symm
          have hny : n < ys.length := by
            have := perm.length_eq
            rw [List.length_map] at this
            omega
          obtain ⟨⟨ix, s'⟩, hm, ey⟩ := List.mem_map.mp (perm.mem_iff.mp (List.getElem_mem hny))
          have hyn : ys[n]? = some (ix : Int) := by
            rw [List.getElem?_eq_getElem hny, ← ey]
          refine ⟨r, _, (n : Int), _, rfl, rfl, SqL.of hr6, atI_nat (v := .int (ix : Int)) (by rw [List.getElem?_map, hyn]; rfl), ?_⟩
          obtain ⟨dx, hp4⟩ := ls4.tb.ob
          have npe : p ≠ e := ne_of hp4 ls4.ce (by intro z; cases z)
          have nle : l ≠ e := ne_of ls4.tb.ls ls4.ce (by intro z; cases z)
          have nqe : q ≠ e := ne_of ls4.cq ls4.ce (by intro z; cases z)
          have npl : p ≠ l := ne_of hp4 ls4.tb.ls (by intro z; cases z)
          have tb5 : TabAt C (upd H6 e (.dK (dropK (psK ps) (Sum.inl (ix : Int))))) p l xs := ⟨⟨dx, by rw [upd_ne npe]; exact hp4⟩, by rw [upd_ne nle]; exact ls4.tb.ls⟩
          obtain ⟨gd5, only⟩ := ls4.gd.erase hm
          obtain ⟨c, hc, _⟩ := ls4.gd.way ix s' hm
          refine ⟨_, rfl, p, dx, _, rfl, hp4, rfl, _, rfl, e, rfl, .inl ⟨_, .inl ls4.ce⟩, _, rfl, psK ps, Sum.inl (ix : Int), .int (s' : Int), ls4.ce, rfl, psK_get ls4.gd.nd hm, p, l, xs, s', ix, rfl, tb5, ls4.gd.at_ ix s' hm, by omega, _, rfl, rfl, _, rfl, iteNo (by simp) ?_⟩
          have ls6 : LS C (upd (upd H6 e (.dK (dropK (psK ps) (Sum.inl (ix : Int))))) l (.lst ((xs.set s' (-2)).map V.int))) p l q e d g cs (dropP ps ix) (xs.set s' (-2)) := by
            obtain ⟨r', t', gs', d6⟩ := ls4.dr
            refine ⟨⟨⟨dx, by rw [upd_ne npl, upd_ne npe]; exact hp4⟩, upd_same⟩, by rw [upd_ne A4.ql, upd_ne nqe]; exact ls4.cq, by rw [upd_ne nle.symm, upd_same, psK_drop], ⟨r', t', gs', ?_, ?_, d6.r0, d6.r1⟩, gd5⟩
            · rw [upd_ne (ne_of d6.dc ls4.tb.ls (by intro z; cases z)), upd_ne A4.de]
              exact d6.dc
            · rw [upd_ne A4.gl, upd_ne (ne_of d6.gl ls4.ce (by intro z; cases z))]
              exact d6.gl
          generalize upd (upd H6 e (.dK (dropK (psK ps) (Sum.inl (ix : Int))))) l (.lst ((xs.set s' (-2)).map V.int)) = H7 at ls6
          obtain ⟨dx6, hp6⟩ := ls6.tb.ob
          refine ⟨_, rfl, p, dx6, _, rfl, hp6, rfl, _, rfl, _, rfl, q, _, _, _, rfl, rfl, SqL.of ls6.cq, atI_nat (v := nV c) (by rw [List.getElem?_map, hc]; rfl), _, rfl, p, l, _, c, ix, rfl, ls6.tb, ls6.gd.cd c (List.mem_of_getElem? hc), ls6.gd.sz, fun r7 hr7 => ?_⟩
          rw [slot_none only]
          have ls8 := ls6.same (same_new (o := .lst ((trailOf (xs.set s' (-2)) c).map nV)) hr7)
          refine ⟨_, rfl, iteNo rfl ?_⟩
          exact ⟨_, rfl, _, rfl, _, rfl, p, l, q, e, cs, (dropP ps ix), (xs.set s' (-2)), rfl, ls8.tb, ls8.cq, ls8.ce, ls8.gd, fun H9 sm9 => ⟨true, rfl, iteF ⟨cs, (dropP ps ix), (xs.set s' (-2)), _, _, rfl, ls8.same sm9, (by rw [List.length_set]; exact hxl), (by omega)⟩⟩⟩
    · rintro σ H' ⟨cs, ps, xs, v6, v7, rfl, ls, hxl, hcl⟩
      exact k H'
end
end K14
set_option Elab.async false
set_option linter.all false
set_option maxRecDepth 100000
namespace K14
open PySem L2
/-! ### what the top has written -/
theorem all_mk {l : PySem.W.OpenLaw} {w : World} {K : PySem.W.Frag} {h : Heap} {mg : Str → Option Value} {fa C pz aS f0 f1 f2 f3 f4 f5 f6 f7 f8 f9 f10 f11 f12 f13 f14 m0 m1 m2 m3 m4 m5 m6 m7 m8 fL gz : Addr} (X : K.In h) (G : h.Ns mainGlobals mg) (hfa : mg "law" = some (.ref fa)) {rest : List Value} {its : Array Value} {nS0 : Nat} {dS : Option Addr} {slS : Array (Option Value)} {tCODES tPUSH_SHARE tEXTRA tEMPTY tHOLE : Tok}
    {odD0 anD0 odD1 anD1 odD2 anD2 odD3 anD3 odD4 anD4 odD5 anD5 odD6 anD6 odD7 anD7 odD8 anD8 odD9 anD9 odD10 anD10 odD11 anD11 odD12 anD12 odD13 anD13 odD14 anD14 odL anL odM0 anM0 odM1 anM1 odM2 anM2 odM3 anM3 odM4 anM4 odM5 anM5 odM6 anM6 odM7 anM7 odM8 anM8 odZ anZ : Option Addr} {slD0 slD1 slD2 slD3 slD4 slD5 slD6 slD7 slD8 slD9 slD10 slD11 slD12 slD13 slD14 slL slM0 slM1 slM2 slM3 slM4 slM5 slM6 slM7 slM8 slZ : Array (Option Value)} {ocD0 kVD0 dcD0 pmD0 cdD0 ctD0 ocD1 kVD1 dcD1 pmD1 cdD1 ctD1 ocD2 kVD2 dcD2 pmD2 cdD2 ctD2 ocD3 kVD3 dcD3 pmD3 cdD3 ctD3 ocD4 kVD4 dcD4 pmD4 cdD4 ctD4 ocD5 kVD5 dcD5 pmD5 cdD5 ctD5 ocD6 kVD6 dcD6 pmD6 cdD6 ctD6 ocD7 kVD7 dcD7 pmD7 cdD7 ctD7 ocD8 kVD8 dcD8 pmD8 cdD8 ctD8 ocD9 kVD9 dcD9 pmD9 cdD9 ctD9 ocD10 kVD10 dcD10 pmD10 cdD10 ctD10 ocD11 kVD11 dcD11 pmD11 cdD11 ctD11 ocD12 kVD12 dcD12 pmD12 cdD12 ctD12 ocD13 kVD13 dcD13 pmD13 cdD13 ctD13 ocD14 kVD14 dcD14 pmD14 cdD14 ctD14 ocL kVL dcL pmL cdL ctL ocM0 kVM0 dcM0 pmM0 cdM0 ctM0 ocM1 kVM1 dcM1 pmM1 cdM1 ctM1 ocM2 kVM2 dcM2 pmM2 cdM2 ctM2 ocM3 kVM3 dcM3 pmM3 cdM3 ctM3 ocM4 kVM4 dcM4 pmM4 cdM4 ctM4 ocM5 kVM5 dcM5 pmM5 cdM5 ctM5 ocM6 kVM6 dcM6 pmM6 cdM6 ctM6 ocM7 kVM7 dcM7 pmM7 cdM7 ctM7 ocM8 kVM8 dcM8 pmM8 cdM8 ctM8 ocZ kVZ dcZ pmZ cdZ ctZ : Value}
    (aD0 : PySem.W.nsIn K mainGlobals "is_whole" = some (some (.ref f0)))
    (lD0 : K.lookup f0 = some ⟨ocD0, odD0, .func (PySem.W.fnOf "is_whole" "is_whole" (defArgs sWhole) (defBody sWhole) (defScope sWhole) .none kVD0 dcD0 pmD0 anD0 cdD0 ctD0), slD0⟩)
    (cD0 : PySem.W.codeIn K cdD0 "is_whole" = true)
    (kD0 : PySem.W.keepIn K (.ref f0) = true)
    (aD1 : PySem.W.nsIn K mainGlobals "is_between" = some (some (.ref f1)))
    (lD1 : K.lookup f1 = some ⟨ocD1, odD1, .func (PySem.W.fnOf "is_between" "is_between" (defArgs sBetween) (defBody sBetween) (defScope sBetween) .none kVD1 dcD1 pmD1 anD1 cdD1 ctD1), slD1⟩)
    (cD1 : PySem.W.codeIn K cdD1 "is_between" = true)
    (kD1 : PySem.W.keepIn K (.ref f1) = true)
    (aD2 : PySem.W.nsIn K mainGlobals "is_count" = some (some (.ref f2)))
    (lD2 : K.lookup f2 = some ⟨ocD2, odD2, .func (PySem.W.fnOf "is_count" "is_count" (defArgs sCount) (defBody sCount) (defScope sCount) .none kVD2 dcD2 pmD2 anD2 cdD2 ctD2), slD2⟩)
    (cD2 : PySem.W.codeIn K cdD2 "is_count" = true)
    (kD2 : PySem.W.keepIn K (.ref f2) = true)
    (aD3 : PySem.W.nsIn K mainGlobals "is_code" = some (some (.ref f3)))
    (lD3 : K.lookup f3 = some ⟨ocD3, odD3, .func (PySem.W.fnOf "is_code" "is_code" (defArgs sCode) (defBody sCode) (defScope sCode) .none kVD3 dcD3 pmD3 anD3 cdD3 ctD3), slD3⟩)
    (cD3 : PySem.W.codeIn K cdD3 "is_code" = true)
    (kD3 : PySem.W.keepIn K (.ref f3) = true)
    (aD4 : PySem.W.nsIn K mainGlobals "need_code" = some (some (.ref f4)))
    (lD4 : K.lookup f4 = some ⟨ocD4, odD4, .func (PySem.W.fnOf "need_code" "need_code" (defArgs sNeedCode) (defBody sNeedCode) (defScope sNeedCode) .none kVD4 dcD4 pmD4 anD4 cdD4 ctD4), slD4⟩)
    (cD4 : PySem.W.codeIn K cdD4 "need_code" = true)
    (kD4 : PySem.W.keepIn K (.ref f4) = true)
    (aD5 : PySem.W.nsIn K mainGlobals "is_size" = some (some (.ref f5)))
    (lD5 : K.lookup f5 = some ⟨ocD5, odD5, .func (PySem.W.fnOf "is_size" "is_size" (defArgs sSize) (defBody sSize) (defScope sSize) .none kVD5 dcD5 pmD5 anD5 cdD5 ctD5), slD5⟩)
    (cD5 : PySem.W.codeIn K cdD5 "is_size" = true)
    (kD5 : PySem.W.keepIn K (.ref f5) = true)
    (aD6 : PySem.W.nsIn K mainGlobals "_need_size" = some (some (.ref f6)))
    (lD6 : K.lookup f6 = some ⟨ocD6, odD6, .func (PySem.W.fnOf "_need_size" "_need_size" (defArgs sNeedSize) (defBody sNeedSize) (defScope sNeedSize) .none kVD6 dcD6 pmD6 anD6 cdD6 ctD6), slD6⟩)
    (cD6 : PySem.W.codeIn K cdD6 "_need_size" = true)
    (kD6 : PySem.W.keepIn K (.ref f6) = true)
    (aD7 : PySem.W.nsIn K mainGlobals "_need_index" = some (some (.ref f7)))
    (lD7 : K.lookup f7 = some ⟨ocD7, odD7, .func (PySem.W.fnOf "_need_index" "_need_index" (defArgs sNeedIndex) (defBody sNeedIndex) (defScope sNeedIndex) .none kVD7 dcD7 pmD7 anD7 cdD7 ctD7), slD7⟩)
    (cD7 : PySem.W.codeIn K cdD7 "_need_index" = true)
    (kD7 : PySem.W.keepIn K (.ref f7) = true)
    (aD8 : PySem.W.nsIn K mainGlobals "capacity" = some (some (.ref f8)))
    (lD8 : K.lookup f8 = some ⟨ocD8, odD8, .func (PySem.W.fnOf "capacity" "capacity" (defArgs sCap) (defBody sCap) (defScope sCap) .none kVD8 dcD8 pmD8 anD8 cdD8 ctD8), slD8⟩)
    (cD8 : PySem.W.codeIn K cdD8 "capacity" = true)
    (kD8 : PySem.W.keepIn K (.ref f8) = true)
    (aD9 : PySem.W.nsIn K mainGlobals "path" = some (some (.ref f9)))
    (lD9 : K.lookup f9 = some ⟨ocD9, odD9, .func (PySem.W.fnOf "path" "path" (defArgs sPath) (defBody sPath) (defScope sPath) .none kVD9 dcD9 pmD9 anD9 cdD9 ctD9), slD9⟩)
    (cD9 : PySem.W.codeIn K cdD9 "path" = true)
    (kD9 : PySem.W.keepIn K (.ref f9) = true)
    (aD10 : PySem.W.nsIn K mainGlobals "first_slots" = some (some (.ref f10)))
    (lD10 : K.lookup f10 = some ⟨ocD10, odD10, .func (PySem.W.fnOf "first_slots" "first_slots" (defArgs sFirst) (defBody sFirst) (defScope sFirst) .none kVD10 dcD10 pmD10 anD10 cdD10 ctD10), slD10⟩)
    (cD10 : PySem.W.codeIn K cdD10 "first_slots" = true)
    (kD10 : PySem.W.keepIn K (.ref f10) = true)
    (aD11 : PySem.W.nsIn K mainGlobals "_law_begun" = some (some (.ref f11)))
    (lD11 : K.lookup f11 = some ⟨ocD11, odD11, .func (PySem.W.fnOf "_law_begun" "_law_begun" (defArgs sBegun) (defBody sBegun) (defScope sBegun) .none kVD11 dcD11 pmD11 anD11 cdD11 ctD11), slD11⟩)
    (cD11 : PySem.W.codeIn K cdD11 "_law_begun" = true)
    (kD11 : PySem.W.keepIn K (.ref f11) = true)
    (aD12 : PySem.W.nsIn K mainGlobals "_law_next" = some (some (.ref f12)))
    (lD12 : K.lookup f12 = some ⟨ocD12, odD12, .func (PySem.W.fnOf "_law_next" "_law_next" (defArgs sNext) (defBody sNext) (defScope sNext) .none kVD12 dcD12 pmD12 anD12 cdD12 ctD12), slD12⟩)
    (cD12 : PySem.W.codeIn K cdD12 "_law_next" = true)
    (kD12 : PySem.W.keepIn K (.ref f12) = true)
    (aD13 : PySem.W.nsIn K mainGlobals "_law_code" = some (some (.ref f13)))
    (lD13 : K.lookup f13 = some ⟨ocD13, odD13, .func (PySem.W.fnOf "_law_code" "_law_code" (defArgs sLCode) (defBody sLCode) (defScope sLCode) .none kVD13 dcD13 pmD13 anD13 cdD13 ctD13), slD13⟩)
    (cD13 : PySem.W.codeIn K cdD13 "_law_code" = true)
    (kD13 : PySem.W.keepIn K (.ref f13) = true)
    (aD14 : PySem.W.nsIn K mainGlobals "_law_held_right" = some (some (.ref f14)))
    (lD14 : K.lookup f14 = some ⟨ocD14, odD14, .func (PySem.W.fnOf "_law_held_right" "_law_held_right" (defArgs sHeld) (defBody sHeld) (defScope sHeld) .none kVD14 dcD14 pmD14 anD14 cdD14 ctD14), slD14⟩)
    (cD14 : PySem.W.codeIn K cdD14 "_law_held_right" = true)
    (kD14 : PySem.W.keepIn K (.ref f14) = true)
    (aL : PySem.W.nsIn K mainGlobals "law" = some (some (.ref fL)))
    (lL : K.lookup fL = some ⟨ocL, odL, .func (PySem.W.fnOf "law" "law" (defArgs sLaw) (defBody sLaw) (defScope sLaw) .none kVL dcL pmL anL cdL ctL), slL⟩)
    (cL : PySem.W.codeIn K cdL "law" = true)
    (kL : PySem.W.keepIn K (.ref fL) = true)
    (aC : PySem.W.nsIn K mainGlobals "SlotTable" = some (some (.ref C)))
    (aM0 : PySem.W.findIn K (.ref C) "__init__" = some (some (.ref m0)))
    (iM0 : PySem.W.isFn K (.ref m0) = true)
    (lM0 : K.lookup m0 = some ⟨ocM0, odM0, .func (PySem.W.fnOf "__init__" "SlotTable.__init__" (defArgs sInit) (defBody sInit) (defScope sInit) .none kVM0 dcM0 pmM0 anM0 cdM0 ctM0), slM0⟩)
    (cM0 : PySem.W.codeIn K cdM0 "SlotTable.__init__" = true)
    (kM0 : PySem.W.keepIn K (.ref m0) = true)
    (aM1 : PySem.W.findIn K (.ref C) "value_at" = some (some (.ref m1)))
    (iM1 : PySem.W.isFn K (.ref m1) = true)
    (lM1 : K.lookup m1 = some ⟨ocM1, odM1, .func (PySem.W.fnOf "value_at" "SlotTable.value_at" (defArgs sVal) (defBody sVal) (defScope sVal) .none kVM1 dcM1 pmM1 anM1 cdM1 ctM1), slM1⟩)
    (cM1 : PySem.W.codeIn K cdM1 "SlotTable.value_at" = true)
    (kM1 : PySem.W.keepIn K (.ref m1) = true)
    (aM2 : PySem.W.findIn K (.ref C) "_need_slot" = some (some (.ref m2)))
    (iM2 : PySem.W.isFn K (.ref m2) = true)
    (lM2 : K.lookup m2 = some ⟨ocM2, odM2, .func (PySem.W.fnOf "_need_slot" "SlotTable._need_slot" (defArgs sNS) (defBody sNS) (defScope sNS) .none kVM2 dcM2 pmM2 anM2 cdM2 ctM2), slM2⟩)
    (cM2 : PySem.W.codeIn K cdM2 "SlotTable._need_slot" = true)
    (kM2 : PySem.W.keepIn K (.ref m2) = true)
    (aM3 : PySem.W.findIn K (.ref C) "count_of" = some (some (.ref m3)))
    (iM3 : PySem.W.isFn K (.ref m3) = true)
    (lM3 : K.lookup m3 = some ⟨ocM3, odM3, .func (PySem.W.fnOf "count_of" "SlotTable.count_of" (defArgs sCnt) (defBody sCnt) (defScope sCnt) .none kVM3 dcM3 pmM3 anM3 cdM3 ctM3), slM3⟩)
    (cM3 : PySem.W.codeIn K cdM3 "SlotTable.count_of" = true)
    (kM3 : PySem.W.keepIn K (.ref m3) = true)
    (aM4 : PySem.W.findIn K (.ref C) "place" = some (some (.ref m4)))
    (iM4 : PySem.W.isFn K (.ref m4) = true)
    (lM4 : K.lookup m4 = some ⟨ocM4, odM4, .func (PySem.W.fnOf "place" "SlotTable.place" (defArgs sPlace) (defBody sPlace) (defScope sPlace) .none kVM4 dcM4 pmM4 anM4 cdM4 ctM4), slM4⟩)
    (cM4 : PySem.W.codeIn K cdM4 "SlotTable.place" = true)
    (kM4 : PySem.W.keepIn K (.ref m4) = true)
    (aM5 : PySem.W.findIn K (.ref C) "_place_for" = some (some (.ref m5)))
    (iM5 : PySem.W.isFn K (.ref m5) = true)
    (lM5 : K.lookup m5 = some ⟨ocM5, odM5, .func (PySem.W.fnOf "_place_for" "SlotTable._place_for" (defArgs sPF) (defBody sPF) (defScope sPF) .none kVM5 dcM5 pmM5 anM5 cdM5 ctM5), slM5⟩)
    (cM5 : PySem.W.codeIn K cdM5 "SlotTable._place_for" = true)
    (kM5 : PySem.W.keepIn K (.ref m5) = true)
    (aM6 : PySem.W.findIn K (.ref C) "erase" = some (some (.ref m6)))
    (iM6 : PySem.W.isFn K (.ref m6) = true)
    (lM6 : K.lookup m6 = some ⟨ocM6, odM6, .func (PySem.W.fnOf "erase" "SlotTable.erase" (defArgs sErase) (defBody sErase) (defScope sErase) .none kVM6 dcM6 pmM6 anM6 cdM6 ctM6), slM6⟩)
    (cM6 : PySem.W.codeIn K cdM6 "SlotTable.erase" = true)
    (kM6 : PySem.W.keepIn K (.ref m6) = true)
    (aM7 : PySem.W.findIn K (.ref C) "trail" = some (some (.ref m7)))
    (iM7 : PySem.W.isFn K (.ref m7) = true)
    (lM7 : K.lookup m7 = some ⟨ocM7, odM7, .func (PySem.W.fnOf "trail" "SlotTable.trail" (defArgs sTrail) (defBody sTrail) (defScope sTrail) .none kVM7 dcM7 pmM7 anM7 cdM7 ctM7), slM7⟩)
    (cM7 : PySem.W.codeIn K cdM7 "SlotTable.trail" = true)
    (kM7 : PySem.W.keepIn K (.ref m7) = true)
    (aM8 : PySem.W.findIn K (.ref C) "slot_of" = some (some (.ref m8)))
    (iM8 : PySem.W.isFn K (.ref m8) = true)
    (lM8 : K.lookup m8 = some ⟨ocM8, odM8, .func (PySem.W.fnOf "slot_of" "SlotTable.slot_of" (defArgs sSlotOf) (defBody sSlotOf) (defScope sSlotOf) .none kVM8 dcM8 pmM8 anM8 cdM8 ctM8), slM8⟩)
    (cM8 : PySem.W.codeIn K cdM8 "SlotTable.slot_of" = true)
    (kM8 : PySem.W.keepIn K (.ref m8) = true)
    (pa : PySem.W.findIn K (.ref C) "size" = some (some (.ref pz)))
    (pb : PySem.W.specialIn K (.ref pz) "__get__" = some (some (.builtin "property.__get__")))
    (pc : PySem.W.takesIn K (.ref pz) = some true)
    (pd : PySem.W.recIn K pz "property" = some (.ref gz :: rest))
    (lZ : K.lookup gz = some ⟨ocZ, odZ, .func (PySem.W.fnOf "size" "SlotTable.size" (defArgs sSz) (defBody sSz) (defScope sSz) .none kVZ dcZ pmZ anZ cdZ ctZ), slZ⟩)
    (cZ : PySem.W.codeIn K cdZ "SlotTable.size" = true)
    (kZ : PySem.W.keepIn K (.ref gz) = true)
    (pg : PySem.W.plainGet K C Str.empty = true)
    (hd : PySem.W.hasDictIn K C = true)
    (po : PySem.W.plainOver K C = true)
    (sa : PySem.W.findIn K (.ref C) "__setattr__" = some (some (.builtin "object.__setattr__")))
    (mk : PySem.W.makesIn K C = true)
    (kc : PySem.W.keepIn K (.ref C) = true)
    (nS : PySem.W.findIn K (.ref C) "_slots" = some none)
    (gCODES : PySem.W.nsIn K mainGlobals "CODES" = some (some (.int 4294967296 tCODES)))
    (gPUSH_SHARE : PySem.W.nsIn K mainGlobals "PUSH_SHARE" = some (some (.int 32 tPUSH_SHARE)))
    (gEXTRA : PySem.W.nsIn K mainGlobals "EXTRA" = some (some (.int 6 tEXTRA)))
    (gEMPTY : PySem.W.nsIn K mainGlobals "EMPTY" = some (some (.int (-1) tEMPTY)))
    (gHOLE : PySem.W.nsIn K mainGlobals "HOLE" = some (some (.int (-2) tHOLE)))
    (gS : PySem.W.nsIn K mainGlobals "SIZES" = some (some (.ref aS)))
    (lS : K.lookup aS = some ⟨.type "tuple", dS, .seq its nS0, slS⟩)
    (zisinstance : PySem.W.nsIn K mainGlobals "isinstance" = some none)
    (zint : PySem.W.nsIn K mainGlobals "int" = some none)
    (zbool : PySem.W.nsIn K mainGlobals "bool" = some none)
    (zlist : PySem.W.nsIn K mainGlobals "list" = some none)
    (zrange : PySem.W.nsIn K mainGlobals "range" = some none)
    (zlen : PySem.W.nsIn K mainGlobals "len" = some none)
    (zmin : PySem.W.nsIn K mainGlobals "min" = some none)
    (zmax : PySem.W.nsIn K mainGlobals "max" = some none)
    (zsorted : PySem.W.nsIn K mainGlobals "sorted" = some none)
    (zenumerate : PySem.W.nsIn K mainGlobals "enumerate" = some none)
    (vS : Vals sizesV its.toList)
    (zS : its.size ≤ sizeLine) :
    ∃ fd : FuncData, (∀ (s : Shared) (v : Value), BindsTo s fd ⟨[v], []⟩ [("script", v)]) ∧ ∀ base : Heap, K.In base → base.Ns mainGlobals mg → FnOk l.prog w K mg base CX0 11 fa fd ["script"] (spLaw K) := by
  have e := hfa.symm.trans (PySem.W.mg_of X G aL)
  cases e
  have F0 := fun_mk (st := sWhole) lD0 cD0 kD0
  have d0 : Df K mg "is_whole" "is_whole" sWhole ["thing"] f0 _ := ⟨F0, F0.binds (ps := ["thing"]) (fun _ _ _ _ _ _ us hl => match us, hl with | [_], _ => rfl), PySem.W.mg_of X G aD0⟩
  have F1 := fun_mk (st := sBetween) lD1 cD1 kD1
  have d1 : Df K mg "is_between" "is_between" sBetween ["thing", "low", "high"] f1 _ := ⟨F1, F1.binds (ps := ["thing", "low", "high"]) (fun _ _ _ _ _ _ us hl => match us, hl with | [_, _, _], _ => rfl), PySem.W.mg_of X G aD1⟩
  have F2 := fun_mk (st := sCount) lD2 cD2 kD2
  have d2 : Df K mg "is_count" "is_count" sCount ["thing"] f2 _ := ⟨F2, F2.binds (ps := ["thing"]) (fun _ _ _ _ _ _ us hl => match us, hl with | [_], _ => rfl), PySem.W.mg_of X G aD2⟩
  have F3 := fun_mk (st := sCode) lD3 cD3 kD3
  have d3 : Df K mg "is_code" "is_code" sCode ["thing"] f3 _ := ⟨F3, F3.binds (ps := ["thing"]) (fun _ _ _ _ _ _ us hl => match us, hl with | [_], _ => rfl), PySem.W.mg_of X G aD3⟩
  have F4 := fun_mk (st := sNeedCode) lD4 cD4 kD4
  have d4 : Df K mg "need_code" "need_code" sNeedCode ["thing"] f4 _ := ⟨F4, F4.binds (ps := ["thing"]) (fun _ _ _ _ _ _ us hl => match us, hl with | [_], _ => rfl), PySem.W.mg_of X G aD4⟩
  have F5 := fun_mk (st := sSize) lD5 cD5 kD5
  have d5 : Df K mg "is_size" "is_size" sSize ["thing"] f5 _ := ⟨F5, F5.binds (ps := ["thing"]) (fun _ _ _ _ _ _ us hl => match us, hl with | [_], _ => rfl), PySem.W.mg_of X G aD5⟩
  have F6 := fun_mk (st := sNeedSize) lD6 cD6 kD6
  have d6 : Df K mg "_need_size" "_need_size" sNeedSize ["size"] f6 _ := ⟨F6, F6.binds (ps := ["size"]) (fun _ _ _ _ _ _ us hl => match us, hl with | [_], _ => rfl), PySem.W.mg_of X G aD6⟩
  have F7 := fun_mk (st := sNeedIndex) lD7 cD7 kD7
  have d7 : Df K mg "_need_index" "_need_index" sNeedIndex ["index"] f7 _ := ⟨F7, F7.binds (ps := ["index"]) (fun _ _ _ _ _ _ us hl => match us, hl with | [_], _ => rfl), PySem.W.mg_of X G aD7⟩
  have F8 := fun_mk (st := sCap) lD8 cD8 kD8
  have d8 : Df K mg "capacity" "capacity" sCap ["size"] f8 _ := ⟨F8, F8.binds (ps := ["size"]) (fun _ _ _ _ _ _ us hl => match us, hl with | [_], _ => rfl), PySem.W.mg_of X G aD8⟩
  have F9 := fun_mk (st := sPath) lD9 cD9 kD9
  have d9 : Df K mg "path" "path" sPath ["code", "size", "many"] f9 _ := ⟨F9, F9.binds (ps := ["code", "size", "many"]) (fun _ _ _ _ _ _ us hl => match us, hl with | [_, _, _], _ => rfl), PySem.W.mg_of X G aD9⟩
  have F10 := fun_mk (st := sFirst) lD10 cD10 kD10
  have d10 : Df K mg "first_slots" "first_slots" sFirst ["code", "size", "many"] f10 _ := ⟨F10, F10.binds (ps := ["code", "size", "many"]) (fun _ _ _ _ _ _ us hl => match us, hl with | [_, _, _], _ => rfl), PySem.W.mg_of X G aD10⟩
  have F11 := fun_mk (st := sBegun) lD11 cD11 kD11
  have d11 : Df K mg "_law_begun" "_law_begun" sBegun ["script"] f11 _ := ⟨F11, F11.binds (ps := ["script"]) (fun _ _ _ _ _ _ us hl => match us, hl with | [_], _ => rfl), PySem.W.mg_of X G aD11⟩
  have F12 := fun_mk (st := sNext) lD12 cD12 kD12
  have d12 : Df K mg "_law_next" "_law_next" sNext ["draw", "below"] f12 _ := ⟨F12, F12.binds (ps := ["draw", "below"]) (fun _ _ _ _ _ _ us hl => match us, hl with | [_, _], _ => rfl), PySem.W.mg_of X G aD12⟩
  have F13 := fun_mk (st := sLCode) lD13 cD13 kD13
  have d13 : Df K mg "_law_code" "_law_code" sLCode ["draw", "size"] f13 _ := ⟨F13, F13.binds (ps := ["draw", "size"]) (fun _ _ _ _ _ _ us hl => match us, hl with | [_, _], _ => rfl), PySem.W.mg_of X G aD13⟩
  have F14 := fun_mk (st := sHeld) lD14 cD14 kD14
  have d14 : Df K mg "_law_held_right" "_law_held_right" sHeld ["table", "codes", "places"] f14 _ := ⟨F14, F14.binds (ps := ["table", "codes", "places"]) (fun _ _ _ _ _ _ us hl => match us, hl with | [_, _, _], _ => rfl), PySem.W.mg_of X G aD14⟩
  have M0 := fun_mk (st := sInit) lM0 cM0 kM0
  have b0 := M0.binds (ps := ["self", "size"]) (fun _ _ _ _ _ _ us hl => match us, hl with | [_, _], _ => rfl)
  have e0 : Meth K C "__init__" m0 := ⟨aM0, iM0, kM0⟩
  have M1 := fun_mk (st := sVal) lM1 cM1 kM1
  have b1 := M1.binds (ps := ["self", "slot"]) (fun _ _ _ _ _ _ us hl => match us, hl with | [_, _], _ => rfl)
  have e1 : Meth K C "value_at" m1 := ⟨aM1, iM1, kM1⟩
  have M2 := fun_mk (st := sNS) lM2 cM2 kM2
  have b2 := M2.binds (ps := ["self", "slot"]) (fun _ _ _ _ _ _ us hl => match us, hl with | [_, _], _ => rfl)
  have e2 : Meth K C "_need_slot" m2 := ⟨aM2, iM2, kM2⟩
  have M3 := fun_mk (st := sCnt) lM3 cM3 kM3
  have b3 := M3.binds (ps := ["self", "value"]) (fun _ _ _ _ _ _ us hl => match us, hl with | [_, _], _ => rfl)
  have e3 : Meth K C "count_of" m3 := ⟨aM3, iM3, kM3⟩
  have M4 := fun_mk (st := sPlace) lM4 cM4 kM4
  have b4 := M4.binds (ps := ["self", "code", "index"]) (fun _ _ _ _ _ _ us hl => match us, hl with | [_, _, _], _ => rfl)
  have e4 : Meth K C "place" m4 := ⟨aM4, iM4, kM4⟩
  have M5 := fun_mk (st := sPF) lM5 cM5 kM5
  have b5 := M5.binds (ps := ["self", "code"]) (fun _ _ _ _ _ _ us hl => match us, hl with | [_, _], _ => rfl)
  have e5 : Meth K C "_place_for" m5 := ⟨aM5, iM5, kM5⟩
  have M6 := fun_mk (st := sErase) lM6 cM6 kM6
  have b6 := M6.binds (ps := ["self", "slot"]) (fun _ _ _ _ _ _ us hl => match us, hl with | [_, _], _ => rfl)
  have e6 : Meth K C "erase" m6 := ⟨aM6, iM6, kM6⟩
  have M7 := fun_mk (st := sTrail) lM7 cM7 kM7
  have b7 := M7.binds (ps := ["self", "code"]) (fun _ _ _ _ _ _ us hl => match us, hl with | [_, _], _ => rfl)
  have e7 : Meth K C "trail" m7 := ⟨aM7, iM7, kM7⟩
  have M8 := fun_mk (st := sSlotOf) lM8 cM8 kM8
  have b8 := M8.binds (ps := ["self", "code", "index"]) (fun _ _ _ _ _ _ us hl => match us, hl with | [_, _, _], _ => rfl)
  have e8 : Meth K C "slot_of" m8 := ⟨aM8, iM8, kM8⟩
  have FZ := fun_mk (st := sSz) lZ cZ kZ
  have bZ := FZ.binds (ps := ["self"]) (fun _ _ _ _ _ _ us hl => match us, hl with | [_], _ => rfl)
  have FL := fun_mk (st := sLaw) lL cL kL
  have B : Bl mg := ⟨PySem.W.mg_none_of X G zisinstance, PySem.W.mg_none_of X G zint, PySem.W.mg_none_of X G zbool, PySem.W.mg_none_of X G zlist, PySem.W.mg_none_of X G zrange, PySem.W.mg_none_of X G zlen, PySem.W.mg_none_of X G zmin, PySem.W.mg_none_of X G zmax, PySem.W.mg_none_of X G zsorted, PySem.W.mg_none_of X G zenumerate⟩
  have T : TT K mg C pz gz := ⟨⟨pg, hd, po, sa⟩, nS, PySem.W.mg_of X G aC, ⟨pa, pb, pc, ⟨_, pd⟩⟩, ⟨_, PySem.W.mg_of X G gEMPTY⟩, ⟨_, PySem.W.mg_of X G gHOLE⟩, ⟨_, PySem.W.mg_of X G gEXTRA⟩⟩
  have tS : TupK K aS sizesV := ⟨_, its, nS0, lS, rfl, rfl, zS, vS⟩
  refine ⟨PySem.W.fnOf "law" "law" (defArgs sLaw) (defBody sLaw) (defScope sLaw) .none kVL dcL pmL anL cdL ctL, fun s v => .of_eq rfl, fun base _ _ => ?_⟩
  have g0 := ok_whole (P := l.prog) (w := w) (base := base) d0 B
  have g1 := ok_between d1 d0 g0
  have g2 := ok_count d2 d0 g0
  have g3 := ok_code d3 d1 g1 (PySem.W.mg_of X G gCODES)
  have g4 := ok_needCode d4 d3 g3
  have g5 := ok_size d5 d0 g0 (PySem.W.mg_of X G gS) tS
  have g6 := ok_needSize d6 d5 g5
  have g7 := ok_needIndex d7 d2 g2
  have g8 := ok_cap d8 d6 g6
  have g9 : Pth.PathDef l.prog w K mg base 5 f9 _ := fun {_ _ _} => ok_path d9 d4 g4 d6 g6 d2 g2 (PySem.W.mg_of X G gPUSH_SHARE) B.range
  have g10 := ok_first d10 B d9 g9
  have hz := ok_sz (P := l.prog) (w := w) (base := base) FZ T B
  have h0 := ok_init M0 T d6 g6
  have h2 := ok_ns M2 T B d1 g1 bZ hz
  have h1 := ok_val M1 T e2 b2 h2
  have h3 := ok_cnt M3 T d0 g0
  have h5 := ok_pf M5 T d9 g9 bZ hz
  have h4 := ok_place M4 T d4 g4 d7 g7 e5 b5 h5
  have h6 := ok_erase M6 T e1 b1 h1
  have h7 := ok_trail M7 T d9 g9 bZ hz
  have h8 := ok_slotOf M8 T d4 g4 d7 g7 e7 b7 h7
  have M : Ms l.prog w K mg base C pz gz := ⟨T, ⟨_, bZ, hz⟩, ⟨_, _, e1, b1, h1⟩, ⟨_, _, e3, b3, h3⟩, ⟨_, _, e4, b4, h4⟩, ⟨_, _, e6, b6, h6⟩, ⟨_, _, e7, b7, h7⟩, ⟨_, _, e8, b8, h8⟩⟩
  have g11 := ok_begun (P := l.prog) (w := w) (base := base) d11 B
  have g12 := ok_next (P := l.prog) (w := w) (base := base) d12 B
  have g13 := ok_lcode d13 d12 g12
  have g14 := ok_held d14 B M d10 g10
  exact ok_law FL B M d11 g11 d12 g12 d13 g13 d14 g14 d8 g8 ⟨mk, aM0, iM0, kc⟩ b0 h0
theorem walk {l : PySem.W.OpenLaw} {q : Program} {loose : List Str} {XP : (Str → Option Value) → Heap → Prop} {YP : World → Heap → Prop} {d : DefRec} {K : Params → PySem.W.Frag} (hn : l.most = some 63) (hdf : d.params.defaults = [])
    (hY : ∀ (w : World) (h : Heap), YP w h → (K w.params).In h)
    (F : ∀ (w : World) (mg : Str → Option Value) (fa : Addr) (h : Heap), (K w.params).In h → h.Ns mainGlobals mg → mg d.name = some (.ref fa) →
      ∃ fd : FuncData, (∀ (s : Shared) (u : Value), BindsTo s fd ⟨[u], []⟩ [("script", u)]) ∧ ∀ base : Heap, (K w.params).In base → base.Ns mainGlobals mg → FnOk l.prog w (K w.params) mg base CX0 11 fa fd ["script"] (spLaw (K w.params))) :
    PySem.W.WalkO q loose XP YP l.row.toRowW d [] (fun f vs => PySem.call f vs) :=
  L2.walk_of (n := 63) (k := 11) (x := "script") (CX := fun _ => CX0) (sp := fun w => spLaw (K w.params)) hn (by decide) hdf ⟨rfl, by decide, by decide⟩ hY F (fun _ _ a ns hl _ hS => ⟨a, ns, rfl, hS, hl, fun _ => rfl⟩) fun _ _ _ _ _ z => z
end K14
open PySem PySem.W PyProof.Rows
set_option maxRecDepth 100000 in
set_option maxHeartbeats 0 in
theorem PySem.Challenge.cw_entryhall_k14_whole_placed_indexes_are_f_holds : PySem.Challenge.rw_entryhall_k14_whole_placed_indexes_are_f.Holds := by
  w_on; o_law; k_head; (case hw => w_witness2)
  k_fill
  refine K14.walk (l := PySem.Challenge.rw_entryhall_k14_whole_placed_indexes_are_f) rfl rfl (fun w h Y => PySem.W.kIn_of Y) ?F
  case F =>
    intro w mg fa h KX G hmg
    refine' K14.all_mk KX G hmg ?aD0 ?lD0 ?cD0 ?kD0 ?aD1 ?lD1 ?cD1 ?kD1 ?aD2 ?lD2 ?cD2 ?kD2 ?aD3 ?lD3 ?cD3 ?kD3 ?aD4 ?lD4 ?cD4 ?kD4 ?aD5 ?lD5 ?cD5 ?kD5 ?aD6 ?lD6 ?cD6 ?kD6 ?aD7 ?lD7 ?cD7 ?kD7 ?aD8 ?lD8 ?cD8 ?kD8 ?aD9 ?lD9 ?cD9 ?kD9 ?aD10 ?lD10 ?cD10 ?kD10 ?aD11 ?lD11 ?cD11 ?kD11 ?aD12 ?lD12 ?cD12 ?kD12 ?aD13 ?lD13 ?cD13 ?kD13 ?aD14 ?lD14 ?cD14 ?kD14 ?aL ?lL ?cL ?kL ?aC ?aM0 ?iM0 ?lM0 ?cM0 ?kM0 ?aM1 ?iM1 ?lM1 ?cM1 ?kM1 ?aM2 ?iM2 ?lM2 ?cM2 ?kM2 ?aM3 ?iM3 ?lM3 ?cM3 ?kM3 ?aM4 ?iM4 ?lM4 ?cM4 ?kM4 ?aM5 ?iM5 ?lM5 ?cM5 ?kM5 ?aM6 ?iM6 ?lM6 ?cM6 ?kM6 ?aM7 ?iM7 ?lM7 ?cM7 ?kM7 ?aM8 ?iM8 ?lM8 ?cM8 ?kM8 ?pa ?pb ?pc ?pd ?lZ ?cZ ?kZ ?pg ?hd ?po ?sa ?mk ?kc ?nS ?gCODES ?gPUSH_SHARE ?gEXTRA ?gEMPTY ?gHOLE ?gS ?lS ?zisinstance ?zint ?zbool ?zlist ?zrange ?zlen ?zmin ?zmax ?zsorted ?zenumerate ?vS ?zS
    (case aD0 => k_is)
    (case lD0 => k_is)
    (case cD0 => k_is)
    (case kD0 => k_is)
    (case aD1 => k_is)
    (case lD1 => k_is)
    (case cD1 => k_is)
    (case kD1 => k_is)
    (case aD2 => k_is)
    (case lD2 => k_is)
    (case cD2 => k_is)
    (case kD2 => k_is)
    (case aD3 => k_is)
    (case lD3 => k_is)
    (case cD3 => k_is)
    (case kD3 => k_is)
    (case aD4 => k_is)
    (case lD4 => k_is)
    (case cD4 => k_is)
    (case kD4 => k_is)
    (case aD5 => k_is)
    (case lD5 => k_is)
    (case cD5 => k_is)
    (case kD5 => k_is)
    (case aD6 => k_is)
    (case lD6 => k_is)
    (case cD6 => k_is)
    (case kD6 => k_is)
    (case aD7 => k_is)
    (case lD7 => k_is)
    (case cD7 => k_is)
    (case kD7 => k_is)
    (case aD8 => k_is)
    (case lD8 => k_is)
    (case cD8 => k_is)
    (case kD8 => k_is)
    (case aD9 => k_is)
    (case lD9 => k_is)
    (case cD9 => k_is)
    (case kD9 => k_is)
    (case aD10 => k_is)
    (case lD10 => k_is)
    (case cD10 => k_is)
    (case kD10 => k_is)
    (case aD11 => k_is)
    (case lD11 => k_is)
    (case cD11 => k_is)
    (case kD11 => k_is)
    (case aD12 => k_is)
    (case lD12 => k_is)
    (case cD12 => k_is)
    (case kD12 => k_is)
    (case aD13 => k_is)
    (case lD13 => k_is)
    (case cD13 => k_is)
    (case kD13 => k_is)
    (case aD14 => k_is)
    (case lD14 => k_is)
    (case cD14 => k_is)
    (case kD14 => k_is)
    (case aL => k_is)
    (case lL => k_is)
    (case cL => k_is)
    (case kL => k_is)
    (case aC => k_is)
    (case aM0 => k_is)
    (case iM0 => k_is)
    (case lM0 => k_is)
    (case cM0 => k_is)
    (case kM0 => k_is)
    (case aM1 => k_is)
    (case iM1 => k_is)
    (case lM1 => k_is)
    (case cM1 => k_is)
    (case kM1 => k_is)
    (case aM2 => k_is)
    (case iM2 => k_is)
    (case lM2 => k_is)
    (case cM2 => k_is)
    (case kM2 => k_is)
    (case aM3 => k_is)
    (case iM3 => k_is)
    (case lM3 => k_is)
    (case cM3 => k_is)
    (case kM3 => k_is)
    (case aM4 => k_is)
    (case iM4 => k_is)
    (case lM4 => k_is)
    (case cM4 => k_is)
    (case kM4 => k_is)
    (case aM5 => k_is)
    (case iM5 => k_is)
    (case lM5 => k_is)
    (case cM5 => k_is)
    (case kM5 => k_is)
    (case aM6 => k_is)
    (case iM6 => k_is)
    (case lM6 => k_is)
    (case cM6 => k_is)
    (case kM6 => k_is)
    (case aM7 => k_is)
    (case iM7 => k_is)
    (case lM7 => k_is)
    (case cM7 => k_is)
    (case kM7 => k_is)
    (case aM8 => k_is)
    (case iM8 => k_is)
    (case lM8 => k_is)
    (case cM8 => k_is)
    (case kM8 => k_is)
    (case pa => k_is)
    (case pb => k_is)
    (case pc => k_is)
    (case pd => k_is)
    (case lZ => k_is)
    (case cZ => k_is)
    (case kZ => k_is)
    (case pg => k_is)
    (case hd => k_is)
    (case po => k_is)
    (case sa => k_is)
    (case mk => k_is)
    (case kc => k_is)
    (case nS => k_is)
    (case gCODES => k_is)
    (case gPUSH_SHARE => k_is)
    (case gEXTRA => k_is)
    (case gEMPTY => k_is)
    (case gHOLE => k_is)
    (case gS => k_is)
    (case lS => k_is)
    (case zisinstance => k_is)
    (case zint => k_is)
    (case zbool => k_is)
    (case zlist => k_is)
    (case zrange => k_is)
    (case zlen => k_is)
    (case zmin => k_is)
    (case zmax => k_is)
    (case zsorted => k_is)
    (case zenumerate => k_is)
    (case vS => exact .cons ⟨_, rfl⟩ (.cons ⟨_, rfl⟩ (.cons ⟨_, rfl⟩ (.cons ⟨_, rfl⟩ (.cons ⟨_, rfl⟩ (.cons ⟨_, rfl⟩ (.cons ⟨_, rfl⟩ (.cons ⟨_, rfl⟩ (.cons ⟨_, rfl⟩ (.cons ⟨_, rfl⟩ .nil))))))))))
    (case zS => decide)
#print axioms PySem.Challenge.cw_entryhall_k14_whole_placed_indexes_are_f_holds
