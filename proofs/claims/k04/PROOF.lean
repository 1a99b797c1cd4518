import PyProof.Rows.All
import Wide.All
import OpenK.AllK
import Wide.FinOn
import PyProof.GenQ
import HandS.ForMost
import HandS.GenList
import HandS.ExcInit
import HandS.ExcIs
import HandS.ExcField
import HandS.Property
import KE.KExcInit
import HandS.IsInst
import HandS.Lambda
import KE.KDflt
import HandS.Deep
import HandS.SetFor
import HandS.EndTab
import PyProof.ReprRoads
import HandS.Style
import HandS.Flow
import HandS.Wide
import HandS.Small
import HandS.More
import HandS.Codes
import HandS.CallLocal
import HandS.ListEq
import HandS.ClsMeth
import HandS.Comp
import HandS.WordsExc
import KE.KIntText
import PyProof.Rows.StrBin
import HandS.List
import KE.KNestM
import KE.KExcLine
import KE.RegKIsAll
import PySem.Challenge.RW_entryhall_k04_error_families
set_option Elab.async false
set_option linter.all false
set_option maxRecDepth 100000
set_option maxHeartbeats 1000000
/-! Fk: a run that wakes none of the generators that slept when it began leaves them as they were. Those that sleep are replaced by ones that look alike and cannot be woken;
a run over the replaced ones is a run over the real ones. -/
namespace Fk
open PySem
open Sem (wp)

/-- looks alike, cannot be woken -/
def fk : GenState → GenState
  | .suspended _ l c p fs cl => .suspended (fun _ => .unsupported "") l c p fs cl
  | x => x
theorem fk_seen (x : GenState) : (fk x).seen = x.seen := by cases x <;> rfl
theorem fk_bare (x : GenState) : (fk x).bare = x.bare := by cases x <;> rfl
def isSusp : GenState → Bool
  | .suspended .. => true
  | _ => false
def plainG : GenState → Prop
  | .suspended _ _ _ _ fs _ => splitAtGen fs = none
  | _ => True
def plainE : End → Prop
  | .susp _ _ _ _ _ _ fs => splitAtGen fs = none
  | .ret _ => True
theorem plainG_end {e : End} (h : plainE e) : plainG e.genState := by cases e <;> first | exact h | trivial
/-- F: which of them are replaced, by their places: what they are in truth. a: the replaced ones; b: the real ones -/
structure Rel (F : Nat → Option GenState) (a b : Array GenState) : Prop where
  size : b.size = a.size
  fake : ∀ (i : Nat) x, F i = some x → isSusp x = true ∧ a[i]? = some (fk x) ∧ b[i]? = some x
  same : ∀ (i : Nat), F i = none → b[i]? = a[i]?
  plain : ∀ (i : Nat) x, F i = none → a[i]? = some x → plainG x
variable {F : Nat → Option GenState} {a b : Array GenState}
theorem Rel.push (h : Rel F a b) (c : Code) : Rel F (a.push (.fresh c)) (b.push (.fresh c)) := by
  refine ⟨by simp [h.size], fun i x e => ?_, fun i e => ?_, fun i x e hx => ?_⟩
  · obtain ⟨q, k, l⟩ := h.fake i x e
    have l1 : i < a.size := (Array.getElem?_eq_some_iff.mp k).1
    have l2 : i < b.size := (Array.getElem?_eq_some_iff.mp l).1
    exact ⟨q, by rw [Array.getElem?_push, if_neg (by omega)]; exact k, by rw [Array.getElem?_push, if_neg (by omega)]; exact l⟩
  · rw [Array.getElem?_push, Array.getElem?_push, h.size, h.same i e]
  · rw [Array.getElem?_push] at hx
    split at hx
    · cases hx; trivial
    · exact h.plain i x e hx
theorem Rel.set (h : Rel F a b) {g : Nat} {x : GenState} (hF : F g = none) (hx : plainG x) : Rel F (a.setIfInBounds g x) (b.setIfInBounds g x) := by
  refine ⟨by simp [h.size], fun i y e => ?_, fun i e => ?_, fun i y e hy => ?_⟩
  · obtain ⟨q, k, l⟩ := h.fake i y e
    have ne : g ≠ i := fun z => by rw [z, e] at hF; cases hF
    exact ⟨q, by rw [Array.getElem?_setIfInBounds_ne ne]; exact k, by rw [Array.getElem?_setIfInBounds_ne ne]; exact l⟩
  · rw [Array.getElem?_setIfInBounds, Array.getElem?_setIfInBounds, h.size, h.same i e]
  · rw [Array.getElem?_setIfInBounds] at hy
    split at hy
    · split at hy
      · cases hy; exact hx
      · cases hy
    · exact h.plain i y e hy
theorem plain_app {a b : List Frame} (ha : splitAtGen a = none) (hb : splitAtGen b = none) : splitAtGen (a ++ b) = none := by
  induction a with
  | nil => exact hb
  | cons f t ih =>
    cases f with
    | ret k h g l c p kp =>
      have e : (splitAtGen t).map (fun x => (Frame.ret k h g l c p kp :: x.1, x.2.1, x.2.2)) = none := ha
      have e' : splitAtGen t = none := by
        cases q : splitAtGen t with
        | none => rfl
        | some z => rw [q] at e; cases e
      show (splitAtGen (t ++ b)).map (fun x => (Frame.ret k h g l c p kp :: x.1, x.2.1, x.2.2)) = none
      rw [ih e']; rfl
    | gen g k l c p => exact absurd (show some _ = none from ha) (fun z => nomatch z)
theorem plain_tail {k h g l c p kp} {fs : List Frame} (e : splitAtGen (.ret k h g l c p kp :: fs) = none) : splitAtGen fs = none := by
  have e : (splitAtGen fs).map (fun x => (Frame.ret k h g l c p kp :: x.1, x.2.1, x.2.2)) = none := e
  cases q : splitAtGen fs with
  | none => rfl
  | some z => rw [q] at e; cases e
variable {M : Model}
theorem no_unsup {Γ : Ctx} {p : Pos} {w : String} {fs : List Frame} {s s' : Shared} {e : End} (h : Runs M Γ p (.unsupported w) fs s e s') : False := by
  generalize ht : (Sem.unsupported w : Sem PySem.Fin) = t at h
  induction h <;> first | (cases ht; done) | (rename_i ih _; exact ih ht) | (rename_i ih _ _; exact ih ht) | (rename_i ih; exact ih ht)
/-- with other generators -/
abbrev gw (s : Shared) (G : Array GenState) : Shared := { s with gens := G }
/-- the run over the real ones -/
theorem runs_fk {Γ : Ctx} {p : Pos} {t : Sem PySem.Fin} {fs : List Frame} {s s' : Shared} {e : End} (h : Runs M Γ p t fs s e s') : splitAtGen fs = none → ∀ G, Rel F s.gens G →
    ∃ G', Runs M Γ p t fs (gw s G) e (gw s' G') ∧ Rel F s'.gens G' ∧ plainE e := by
  induction h with
  | done => intro _ G R; exact ⟨G, .done, R, trivial⟩
  | raise => intro _ G R; exact ⟨G, .raise, R, trivial⟩
  | again hq _ ih => intro hf G R; obtain ⟨r', h1, h2, h3⟩ := ih hf G R; exact ⟨r', .again hq h1, h2, h3⟩
  | rule _ ih => intro hf G R; obtain ⟨r', h1, h2, h3⟩ := ih hf G R; exact ⟨r', .rule h1, h2, h3⟩
  | «at» _ ih => intro hf G R; obtain ⟨r', h1, h2, h3⟩ := ih hf G R; exact ⟨r', .at h1, h2, h3⟩
  | load ho _ ih => intro hf G R; obtain ⟨r', h1, h2, h3⟩ := ih hf G R; exact ⟨r', .load ho h1, h2, h3⟩
  | update ha _ ih => intro hf G R; obtain ⟨r', h1, h2, h3⟩ := ih hf G R; exact ⟨r', .update ha h1, h2, h3⟩
  | loadIfAlive _ ih => intro hf G R; obtain ⟨r', h1, h2, h3⟩ := ih hf G R; exact ⟨r', .loadIfAlive h1, h2, h3⟩
  | point _ ih => intro hf G R; obtain ⟨r', h1, h2, h3⟩ := ih hf G R; exact ⟨r', .point h1, h2, h3⟩
  | alloc _ ih => intro hf G R; obtain ⟨r', h1, h2, h3⟩ := ih hf G R; exact ⟨r', .alloc h1, h2, h3⟩
  | fresh _ ih => intro hf G R; obtain ⟨r', h1, h2, h3⟩ := ih hf G R; exact ⟨r', .fresh h1, h2, h3⟩
  | ask _ ih => intro hf G R; obtain ⟨r', h1, h2, h3⟩ := ih hf G R; exact ⟨r', .ask h1, h2, h3⟩
  | choose hn _ ih => intro hf G R; obtain ⟨r', h1, h2, h3⟩ := ih hf G R; exact ⟨r', .choose hn h1, h2, h3⟩
  | os _ ih => intro hf G R; obtain ⟨r', h1, h2, h3⟩ := ih hf G R; exact ⟨r', .os h1, h2, h3⟩
  | handled _ ih => intro hf G R; obtain ⟨r', h1, h2, h3⟩ := ih hf G R; exact ⟨r', .handled h1, h2, h3⟩
  | @genState g st Γ p k s e s' hg hr ih =>
    intro hf G R
    obtain ⟨r', h1, h2, h3⟩ := ih hf G R
    cases q : F g with
    | none => exact ⟨r', .genState (by rw [← R.same g q] at hg; exact hg) h1, h2, h3⟩
    | some x =>
      obtain ⟨_, k1, k2⟩ := R.fake g x q
      rw [k1] at hg
      cases hg
      rw [fk_seen] at h1
      exact ⟨r', .genState k2 h1, h2, h3⟩
  | stack _ ih => intro hf G R; obtain ⟨r', h1, h2, h3⟩ := ih hf G R; exact ⟨r', .stack h1, h2, h3⟩
  | thread _ ih => intro hf G R; obtain ⟨r', h1, h2, h3⟩ := ih hf G R; exact ⟨r', .thread h1, h2, h3⟩
  | @newGen Γ p k s e s' c hr ih =>
    intro hf G R
    obtain ⟨r', h1, h2, h3⟩ := ih hf (G.push (.fresh c)) (R.push c)
    refine ⟨r', .newGen ?_, h2, h3⟩
    have := R.size
    rw [show (gw s G).gens.size = s.gens.size from R.size]
    exact h1
  | call _ _ ih1 ih2 =>
    intro hf G R
    obtain ⟨r1, h1, h2, _⟩ := ih1 rfl G R
    obtain ⟨r2, k1, k2, k3⟩ := ih2 hf r1 h2
    exact ⟨r2, .call h1 k1, k2, k3⟩
  | callSusp _ ih =>
    intro hf G R
    obtain ⟨r1, h1, h2, h3⟩ := ih rfl G R
    exact ⟨r1, .callSusp h1, h2, plain_app h3 rfl⟩
  | yield => intro hf G R; exact ⟨G, .yield, R, rfl⟩
  | @resumeFresh Γ p g l k s c e₁ s₁ e s' hg _ hq _ ih1 ih2 =>
    intro hf G R
    cases q : F g with
    | some x =>
      obtain ⟨z, k1, k2⟩ := R.fake g x q
      rw [k1] at hg
      cases x <;> first | (cases z; done) | (cases hg; done)
    | none =>
      obtain ⟨r1, h1, h2, h3⟩ := ih1 rfl (G.setIfInBounds g .running) (R.set q trivial)
      obtain ⟨r2, j1, j2, j3⟩ := ih2 hf (r1.setIfInBounds g e₁.genState) (h2.set q (plainG_end h3))
      exact ⟨r2, .resumeFresh (by rw [← R.same g q] at hg; exact hg) h1 hq j1, j2, j3⟩
  | @resumeSuspended Γ p g rr l k s k₀ l₀ c₀ p₀ fs cl e₁ s₁ e s' hg hr hq _ ih1 ih2 =>
    intro hf G R
    cases q : F g with
    | some x =>
      obtain ⟨z, k1, k2⟩ := R.fake g x q
      rw [k1] at hg
      cases x with
      | suspended a1 a2 a3 a4 a5 a6 =>
        cases hg
        exact (no_unsup hr).elim
      | _ => cases z
    | none =>
      have pl : splitAtGen fs = none := R.plain g _ q hg
      obtain ⟨r1, h1, h2, h3⟩ := ih1 pl (G.setIfInBounds g .running) (R.set q trivial)
      obtain ⟨r2, j1, j2, j3⟩ := ih2 hf (r1.setIfInBounds g e₁.genState) (h2.set q (plainG_end h3))
      exact ⟨r2, .resumeSuspended (by rw [← R.same g q] at hg; exact hg) h1 hq j1, j2, j3⟩
  | @resumeJustStarted g v Γ p k s e s' l c hg hv _ ih =>
    intro hf G R
    cases q : F g with
    | some x =>
      obtain ⟨z, k1, k2⟩ := R.fake g x q
      rw [k1] at hg
      cases x <;> first | (cases z; done) | (cases hg; done)
    | none =>
      obtain ⟨r2, j1, j2, j3⟩ := ih hf G R
      exact ⟨r2, .resumeJustStarted (by rw [← R.same g q] at hg; exact hg) hv j1, j2, j3⟩
  | @resumeThrowFresh g Γ p k e s' x l s c hg _ ih =>
    intro hf G R
    cases q : F g with
    | some x =>
      obtain ⟨z, k1, k2⟩ := R.fake g x q
      rw [k1] at hg
      cases x <;> first | (cases z; done) | (cases hg; done)
    | none =>
      obtain ⟨r2, j1, j2, j3⟩ := ih hf (G.setIfInBounds g .finished) (R.set q trivial)
      exact ⟨r2, .resumeThrowFresh (by rw [← R.same g q] at hg; exact hg) j1, j2, j3⟩
  | @resumeRunning g Γ p k s e s' r l hg _ ih =>
    intro hf G R
    cases q : F g with
    | some x =>
      obtain ⟨z, k1, k2⟩ := R.fake g x q
      rw [k1] at hg
      cases x <;> first | (cases z; done) | (cases hg; done)
    | none =>
      obtain ⟨r2, j1, j2, j3⟩ := ih hf G R
      exact ⟨r2, .resumeRunning (by rw [← R.same g q] at hg; exact hg) j1, j2, j3⟩
  | @resumeFinished g Γ p k s e s' r l hg _ ih =>
    intro hf G R
    cases q : F g with
    | some x =>
      obtain ⟨z, k1, k2⟩ := R.fake g x q
      rw [k1] at hg
      cases x <;> first | (cases z; done) | (cases hg; done)
    | none =>
      obtain ⟨r2, j1, j2, j3⟩ := ih hf G R
      exact ⟨r2, .resumeFinished (by rw [← R.same g q] at hg; exact hg) j1, j2, j3⟩
  | segRet _ _ ih1 ih2 =>
    intro hf G R
    obtain ⟨r1, h1, h2, _⟩ := ih1 rfl G R
    obtain ⟨r2, j1, j2, j3⟩ := ih2 (plain_tail hf) r1 h2
    exact ⟨r2, .segRet h1 j1, j2, j3⟩
  | segGen _ _ _ _ => intro hf; exact absurd (show some _ = none from hf) (fun z => nomatch z)
  | segSuspOut hs _ ih =>
    intro hf G R
    obtain ⟨r1, h1, h2, h3⟩ := ih rfl G R
    exact ⟨r1, .segSuspOut hs h1, h2, plain_app h3 hs⟩
  | segSuspGen hs _ _ _ _ _ => intro hf; rw [hf] at hs; cases hs

theorem returns_fk {Γ : Ctx} {p : Pos} {s s' : Shared} {r : Result} (h : Returns M Γ p s r s') {G : Array GenState} (R : Rel F s.gens G) : ∃ G', Returns M Γ p (gw s G) r (gw s' G') ∧ Rel F s'.gens G' := by
  obtain ⟨G', h1, h2, _⟩ := runs_fk h rfl G R
  exact ⟨G', h1, h2⟩
theorem wakes_fk {Γ : Ctx} {p : Pos} {g : Nat} {r : Resume} {s s' : Shared} {res : GenResult} (h : Wakes M Γ p g r s res s') {G : Array GenState} (R : Rel F s.gens G) : ∃ G', Wakes M Γ p g r (gw s G) res (gw s' G') ∧ Rel F s'.gens G' := by
  cases q : F g with
  | some x =>
    obtain ⟨z, k1, k2⟩ := R.fake g x q
    unfold Wakes at h
    rw [k1] at h
    cases x with
    | suspended a1 a2 a3 a4 a5 a6 =>
      obtain ⟨e₁, s₁, hr, _⟩ := h
      exact (no_unsup hr).elim
    | _ => cases z
  | none =>
    have hs := R.same g q
    unfold Wakes at h ⊢
    rw [show (gw s G).gens[g]? = s.gens[g]? from hs]
    cases hg : s.gens[g]? with
    | none => rw [hg] at h; exact h.elim
    | some gs =>
      rw [hg] at h
      cases gs with
      | fresh c =>
        cases r with
        | send v =>
          by_cases hv : v = Value.none
          · subst hv
            obtain ⟨e₁, s₁, hr, hq, hres, hs'⟩ := h
            obtain ⟨G1, h1, h2, h3⟩ := runs_fk hr rfl (G.setIfInBounds g .running) (R.set q trivial)
            subst hs'
            exact ⟨G1.setIfInBounds g e₁.genState, ⟨e₁, _, h1, hq, hres, rfl⟩, h2.set q (plainG_end h3)⟩
          · cases v <;> first | exact absurd rfl hv | (obtain ⟨h1, h2⟩ := h; subst h2; exact ⟨G, ⟨h1, rfl⟩, R⟩)
        | throw x =>
          obtain ⟨h1, h2⟩ := h
          subst h2
          exact ⟨G.setIfInBounds g .finished, ⟨h1, rfl⟩, R.set q trivial⟩
      | suspended k₀ l₀ c₀ p₀ fs cl =>
        obtain ⟨e₁, s₁, hr, hq, hres, hs'⟩ := h
        obtain ⟨G1, h1, h2, h3⟩ := runs_fk hr (R.plain g _ q hg) (G.setIfInBounds g .running) (R.set q trivial)
        subst hs'
        exact ⟨G1.setIfInBounds g e₁.genState, ⟨e₁, _, h1, hq, hres, rfl⟩, h2.set q (plainG_end h3)⟩
      | running => obtain ⟨h1, h2⟩ := h; subst h2; exact ⟨G, ⟨h1, rfl⟩, R⟩
      | finished => obtain ⟨h1, h2⟩ := h; subst h2; exact ⟨G, ⟨h1, rfl⟩, R⟩
/-- what holds over the replaced ones holds over the real ones -/
theorem wp_fk {α : Type} (F : Nat → Option GenState) (M : Model) (Γ : Ctx) (t : Sem α) : ∀ (Q : α → Pos → Shared → Prop) (E : Value → Pos → Shared → Prop) (p : Pos) (s : Shared) (G : Array GenState), Rel F s.gens G → wp M Γ t Q E p s →
    wp M Γ t (fun a p' s' => ∃ G0, Rel F G0 s'.gens ∧ Q a p' (gw s' G0)) (fun e p' s' => ∃ G0, Rel F G0 s'.gens ∧ E e p' (gw s' G0)) p (gw s G) := by
  induction t with
  | pure a => intro Q E p s G R h; exact ⟨s.gens, R, h⟩
  | raise e => intro Q E p s G R h; exact ⟨s.gens, R, h⟩
  | unsupported _ => intro Q E p s G _ h; exact h
  | finish _ => intro Q E p s G _ h; exact h
  | rule _ k ih => intro Q E p s G R h; exact ih () Q E p s G R h
  | «at» p' k ih => intro Q E p s G R h; exact ih () Q E p' s G R h
  | load a _ k ih => intro Q E p s G R h; obtain ⟨o, ho, h⟩ := h; exact ⟨o, ho, ih o Q E p s G R h⟩
  | update a _ f k ih => intro Q E p s G R h; exact ⟨h.1, ih () Q E p { s with heap := s.heap.update a f } G R h.2⟩
  | loadIfAlive a k ih => intro Q E p s G R h; exact ih _ Q E p s G R h
  | point _ k ih => intro Q E p s G R h; exact ih () Q E p s G R h
  | register _ _ => intro Q E p s G _ h; exact h
  | alloc o k ih => intro Q E p s G R h; exact ih _ Q E p { s with heap := s.heap.push o } G R h
  | fresh k ih => intro Q E p s G R h; exact ih _ Q E p { s with toks := s.toks + 1 } G R h
  | ask k ih => intro Q E p s G R h; exact ih _ Q E p s G R h
  | choose src m k ih => intro Q E p s G R h; exact ⟨h.1, ih _ Q E p { s with drawn := s.drawn.bump src } G R h.2⟩
  | os q _ k ih => intro Q E p s G R h; exact ih _ Q E p { s with os := (Os.step s.os q).1 } G R h
  | call c hd _ _ k ih =>
    intro Q E p s G R h
    obtain ⟨r, s', hr, h⟩ := h
    obtain ⟨G', h1, h2⟩ := returns_fk hr R
    exact ⟨r, _, h1, ih r Q E p s' G' h2 h⟩
  | handled own k ih => intro Q E p s G R h; exact ih _ Q E p s G R h
  | genState g k ih =>
    intro Q E p s G R h
    obtain ⟨st, hs, h⟩ := h
    cases q : F g with
    | none => exact ⟨st, by rw [← R.same g q] at hs; exact hs, ih _ Q E p s G R h⟩
    | some x =>
      obtain ⟨_, k1, k2⟩ := R.fake g x q
      rw [k1] at hs
      cases hs
      rw [fk_seen] at h
      exact ⟨x, k2, ih _ Q E p s G R h⟩
  | newGen c k ih =>
    intro Q E p s G R h
    have := ih _ Q E p _ _ (R.push c) h
    rw [← R.size] at this
    exact this
  | resume g r _ k ih =>
    intro Q E p s G R h
    obtain ⟨res, s', hw, h⟩ := h
    obtain ⟨G', h1, h2⟩ := wakes_fk hw R
    exact ⟨res, _, h1, ih res Q E p s' G' h2 h⟩
  | yield _ _ _ _ => intro Q E p s G _ h; exact h
  | stack k ih => intro Q E p s G R h; exact ih _ Q E p s G R h
  | fork _ _ => intro Q E p s G _ h; exact h
  | thread k ih => intro Q E p s G R h; exact ih _ Q E p s G R h
  | await _ _ _ _ _ => intro Q E p s G _ h; exact h
theorem wpAny_fk {α : Type} {M : Model} {A : Around} {t : Sem α} {Q : α → Shared → Prop} {E : Value → Shared → Prop} {s : Shared} {G : Array GenState} (R : Rel F s.gens G) (h : wpAny M A t Q E s) :
    wpAny M A t (fun a s' => ∃ G0, Rel F G0 s'.gens ∧ Q a (gw s' G0)) (fun e s' => ∃ G0, Rel F G0 s'.gens ∧ E e (gw s' G0)) (gw s G) := fun Γ p hΓ => wp_fk F M Γ t _ _ p s G R (h Γ p hΓ)
/-- all that sleep now -/
def sleepers (G : Array GenState) (i : Nat) : Option GenState := match G[i]? with
  | some x => if isSusp x = true then some x else none
  | none => none
def faked (G : Array GenState) : Array GenState := G.map fk
theorem rel_faked (G : Array GenState) : Rel (sleepers G) (faked G) G := by
  refine ⟨by simp [faked], fun i x e => ?_, fun i e => ?_, fun i x e hx => ?_⟩
  · unfold sleepers at e
    split at e
    · rename_i y hy
      split at e
      · rename_i hs
        cases e
        exact ⟨hs, by simp [faked, hy], hy⟩
      · cases e
    · cases e
  · unfold sleepers at e
    unfold faked
    rw [Array.getElem?_map]
    cases hy : G[i]? with
    | none => rfl
    | some y =>
      rw [hy] at e
      cases y <;> first | rfl | (simp [isSusp] at e)
  · unfold sleepers at e
    unfold faked at hx
    rw [Array.getElem?_map] at hx
    cases hy : G[i]? with
    | none => rw [hy] at hx; cases hx
    | some y =>
      rw [hy] at e hx
      cases hx
      cases y <;> first | trivial | (simp [isSusp] at e)
theorem bare_faked {G : Array GenState} (h : ∀ y ∈ G, y.bare = true) : ∀ y ∈ faked G, y.bare = true := fun y hy => by
  obtain ⟨x, hx, rfl⟩ := Array.mem_map.mp hy
  rw [fk_bare]; exact h x hx
theorem bare_real (h : Rel F a b) (hF : ∀ i x, F i = some x → x.bare = true) (ha : ∀ y ∈ a, y.bare = true) : ∀ y ∈ b, y.bare = true := fun y hy => by
  obtain ⟨i, hi, rfl⟩ := Array.mem_iff_getElem.mp hy
  have hb : b[i]? = some b[i] := Array.getElem?_eq_getElem hi
  cases q : F i with
  | some x =>
    obtain ⟨_, _, k2⟩ := h.fake i x q
    rw [k2] at hb
    have : x = b[i] := Option.some.inj hb
    rw [← this]; exact hF i x q
  | none =>
    have k := h.same i q
    rw [hb] at k
    have hi' : i < a.size := by rw [← h.size]; exact hi
    rw [Array.getElem?_eq_getElem hi'] at k
    have : b[i] = a[i] := Option.some.inj k
    rw [this]; exact ha _ (Array.getElem_mem hi')
theorem sleepers_at {G : Array GenState} {g : Nat} {x : GenState} (h : G[g]? = some x) (hs : isSusp x = true) : sleepers G g = some x := by
  unfold sleepers; rw [h]; simp [hs]
theorem sleepers_bare {G : Array GenState} (h : ∀ y ∈ G, y.bare = true) : ∀ i x, sleepers G i = some x → x.bare = true := fun i x e => by
  unfold sleepers at e
  split at e
  · rename_i y hy
    split at e
    · cases e; exact h _ (Array.mem_of_getElem? hy)
    · cases e
  · cases e
end Fk
set_option Elab.async false
set_option linter.all false
set_option maxRecDepth 100000
set_option maxHeartbeats 1000000
/-! Pth: the generator path, its turns over the machine's own rules -/
namespace Pth
open PySem PySem.Spec PyProof.Rows L2 GenW
/-! ### the text of the loop -/
abbrev stPush (p1 p2 p3 p4 p5 : Pos) : Stmt := .Assign [.Name "push" p1] (.BinOp (.Name "push" p2) .FloorDiv (.Name "PUSH_SHARE" p3) p4) p5
abbrev stSlot (p1 p2 p3 p4 p5 p6 p7 p8 p9 p10 p11 : Pos) (k1 k2 : Nat) : Stmt := .Assign [.Name "slot" p1] (.BinOp (.BinOp (.BinOp (.BinOp (.Constant (.int 5) k1 p2) .Mult (.Name "slot" p3) p4) .Add (.Name "push" p5) p6) .Add (.Constant (.int 1) k2 p7) p8) .Mod (.Name "size" p9) p10) p11
/-- what the walk asks of the env -/
structure PEnv (env : Env) : Prop where
  kind : env.scope.kind = .function
  co : env.scope.isCoroutine = false
  gl : env.globals = mainGlobals
  slot : env.kindOf "slot" = some .local
  push : env.kindOf "push" = some .local
  size : env.kindOf "size" = some .local
  low : env.kindOf "_" = some .local
  share : env.kindOf "PUSH_SHARE" = some .globalImplicit
/-- the frame's names -/
structure Fm (env : Env) (h : Heap) (size slot push : Int) : Prop where
  ns : ∃ m, h.Ns env.locals m ∧ (∃ t, m "slot" = some (.int slot t)) ∧ (∃ t, m "push" = some (.int push t)) ∧ ∃ t, m "size" = some (.int size t)
  gl : ∃ mg, h.Ns mainGlobals mg ∧ ∃ t, mg "PUSH_SHARE" = some (.int 32 t)
theorem Fm.keeps {env : Env} {h h' : Heap} {size slot push : Int} (x : Fm env h size slot push) (k : ∀ b o, (b = env.locals ∨ b = mainGlobals) → h.get? b = some o → h'.get? b = some o) : Fm env h' size slot push := by
  obtain ⟨⟨m, hn, r⟩, ⟨mg, hg, q⟩⟩ := x
  exact ⟨⟨m, hn.at' fun o e => k _ o (.inl rfl) e, r⟩, ⟨mg, hg.at' fun o e => k _ o (.inr rfl) e, q⟩⟩
section
variable {prog : Program} {w : World} {A : Around} {E : Value → Shared → Prop} {s : Shared} {env : Env} {size slot push : Int}
theorem nm {x : Str} {p : Pos} {m : Str → Option Value} {v : Value} {Q : Value → Shared → Prop} (T : PEnv env) (hk : env.kindOf x = some .local) (hn : s.heap.Ns env.locals m) (hm : m x = some v) (h : Q v s) (hd : (x == ("__debug__" : Str)) = false := by decide) :
    wpAny (model prog w) A (eval (.Name x p) env) Q E s := wpAny_Name (wpAny_loadName_local T.kind hk hn hm h) hd
/-- push = push // PUSH_SHARE -/
theorem run_push {p1 p2 p3 p4 p5 : Pos} {Q : Flow → Shared → Prop} (T : PEnv env) (hL : env.locals ≠ mainGlobals) (x : Fm env s.heap size slot push)
    (h : ∀ h' tk, Fm env h' size slot (push.fdiv 32) → (∀ b o, b ≠ env.locals → s.heap.get? b = some o → h'.get? b = some o) → Q .next { s with heap := h', toks := tk }) :
    wpAny (model prog w) A (exec (stPush p1 p2 p3 p4 p5) env) Q E s := by
  obtain ⟨⟨m, hn, ⟨t1, e1⟩, ⟨t2, e2⟩, ⟨t3, e3⟩⟩, ⟨mg, hg, ⟨t4, e4⟩⟩⟩ := x
  have h1 : (("slot" : Str) = "push") = False := by simp [show ¬ (("slot" : Str) = "push") by decide]
  have h2 : (("size" : Str) = "push") = False := by simp [show ¬ (("size" : Str) = "push") by decide]
  refine wpAny_Assign_Name ?_
  refine wpAny_BinOp (nm T T.push hn e2 ?_)
  refine Calls.Name_function_global T.kind T.share (Calls.loadGlobal_global (by rw [T.gl]; exact hg) e4 ?_) (by decide)
  refine floordiv_int (by decide) ?_
  refine wpAny_storeName_local (s := { s with toks := s.toks + 1 }) T.push hn (fun h' hn' hs => ?_) (by rw [T.kind]; rfl)
  refine h h' _ ⟨⟨_, hn', ⟨t1, by rw [if_neg (by simp [h1])]; exact e1⟩, ⟨_, if_pos rfl⟩, ⟨t3, by rw [if_neg (by simp [h2])]; exact e3⟩⟩, ⟨mg, hg.sameBut hs (Ne.symm hL), t4, e4⟩⟩ fun b o hb e => (hs.2 b hb).trans e
/-- slot = (5 * slot + push + 1) % size -/
theorem run_slot {p1 p2 p3 p4 p5 p6 p7 p8 p9 p10 p11 : Pos} {k1 k2 : Nat} {Q : Flow → Shared → Prop} (T : PEnv env) (hL : env.locals ≠ mainGlobals) (hz : size ≠ 0) (x : Fm env s.heap size slot push)
    (h : ∀ h' tk, Fm env h' size ((5 * slot + push + 1).fmod size) push → (∀ b o, b ≠ env.locals → s.heap.get? b = some o → h'.get? b = some o) → Q .next { s with heap := h', toks := tk }) :
    wpAny (model prog w) A (exec (stSlot p1 p2 p3 p4 p5 p6 p7 p8 p9 p10 p11 k1 k2) env) Q E s := by
  obtain ⟨⟨m, hn, ⟨t1, e1⟩, ⟨t2, e2⟩, ⟨t3, e3⟩⟩, ⟨mg, hg, q⟩⟩ := x
  have h1 : (("push" : Str) = "slot") = False := by simp [show ¬ (("push" : Str) = "slot") by decide]
  have h2 : (("size" : Str) = "slot") = False := by simp [show ¬ (("size" : Str) = "slot") by decide]
  refine wpAny_Assign_Name ?_
  refine wpAny_BinOp (wpAny_BinOp (wpAny_BinOp (wpAny_BinOp (wpAny_Constant_int (nm (s := { s with toks := s.toks + 1 }) T T.slot hn e1 ?_)))))
  refine mul_int ?_ (CMul.ok (.inl ⟨by decide, by decide⟩))
  refine nm (s := { s with toks := s.toks + 1 + 1 }) T T.push hn e2 ?_
  refine add_int ?_
  refine wpAny_Constant_int ?_
  refine add_int ?_
  refine nm (s := { s with toks := s.toks + 1 + 1 + 1 + 1 + 1 }) T T.size hn e3 ?_
  refine mod_int' hz ?_
  refine wpAny_storeName_local (s := { s with toks := _ }) T.slot hn (fun h' hn' hs => ?_) (by rw [T.kind]; rfl)
  refine h h' _ ⟨⟨_, hn', ⟨_, if_pos rfl⟩, ⟨t2, by rw [if_neg (by simp [h1])]; exact e2⟩, ⟨t3, by rw [if_neg (by simp [h2])]; exact e3⟩⟩, ⟨mg, hg.sameBut hs (Ne.symm hL), q⟩⟩ fun b o hb e => (hs.2 b hb).trans e
end

/-! ### for, within a generator -/
section
variable {M : Model} {A : Around} {R : GenEnd} {Y : Protocol} {n : Nat} {s₀ : Shared} {c : Code} {fs : List Frame} {s : Shared} {env : Env}
  {K : Flow → Sem PySem.Fin} {H : Value → Sem PySem.Fin} {gd : Bool → Bool} {lv : List Value → List Value}
/-- what stands behind the loop's call -/
abbrev behind (env : Env) (K : Flow → Sem PySem.Fin) (H : Value → Sem PySem.Fin) (gd : Bool → Bool) (lv : List Value → List Value) (r : Result) : Sem PySem.Fin :=
  ((match r with | .ok f => (.pure f : Sem Flow) | .error e => .raise e).onRaise fun (x : Value) => do
    if (← field x 1) == Value.none then unsupported "frame.own-activation:exception-without-traceback"
    setFlight x env.frame).wrap K H gd lv
theorem seg_For {target iter : Expr} {body orelse : List Stmt} {pos : Pos} (hs : ∀ x, foldedSetIterable iter env x = pure x)
    (h : wpAny M (A.over c fs) (eval iter env) (fun x s₁ => wpAny M (A.over c fs) (pyIter x) (fun it s₂ => ∀ p, Seg M A R Y n s₀ (.forLoop target it body orelse env) (M.den (.forLoop target it body orelse env)) (.ret (behind env K H gd lv) none (gd false) (lv []) c p [] :: fs) s₂)
      (fun x s' => Seg M A R Y n s₀ c (H x) fs s') s₁) (fun x s' => Seg M A R Y n s₀ c (H x) fs s') s) :
    Seg M A R Y n s₀ c ((exec (.For target iter body orelse pos) env).wrap K H gd lv) fs s := by
  rw [exec_For]
  refine seg_at ?_
  show Seg _ _ _ _ _ _ _ (((eval iter env) >>= fun x => (foldedSetIterable iter env x >>= fun x => (standAt iter.pos >>= fun _ => (holding [x] (pyIter x)) >>= fun it => runOwn (.forLoop target it body orelse env) env))).wrap K H gd lv) fs s
  rw [Sem.bind_eq_wrap', Sem.wrap_wrap]
  refine seg_wrap (wpAny_mono h (fun x s₁ h₁ => ?_) fun _ _ h' => h')
  rw [hs x]
  refine seg_at ?_
  show Seg _ _ _ _ _ _ _ (((holding [x] (pyIter x)) >>= fun it => runOwn (.forLoop target it body orelse env) env).wrap K H gd lv) fs s₁
  rw [Sem.bind_eq_wrap', Sem.wrap_wrap]
  refine seg_wrap (wpAny_holding (wpAny_mono h₁ (fun it s₂ h₂ => ?_) fun _ _ h' => h'))
  exact seg_call h₂
end
section
variable {prog : Program} {w : World} {A : Around} {R : GenEnd} {Y : Protocol} {n : Nat} {s₀ : Shared} {fs : List Frame} {s : Shared} {env : Env}
/-- what is left of a loop's turn behind its body -/
abbrev turned (target : Expr) (it : Value) (body orelse : List Stmt) (env : Env) (f : Flow) : Sem PySem.Fin := match f with
  | .next | .cont => .pure (.again (.forLoop target it body orelse env))
  | .brk => .pure (.done .next)
  | .ret v => .pure (.done (.ret v))
abbrev noted (env : Env) (e : Value) : Sem PySem.Fin := (do noteFrame e env; theTreesLotGoes e : Sem Unit).wrap (fun _ => .raise e) .raise id id
theorem seg_forLoop {target : Expr} {it : Value} {body orelse : List Stmt} (hgo : ∀ v, letOwnedTupleGo target it v = pure ())
    (h : wpAny (model prog w) (A.over (.forLoop target it body orelse env) fs) (pyNext it) (fun r s₁ => match r with
        | none => Seg (model prog w) A R Y n s₀ (.block orelse env) ((model prog w).den (.block orelse env)) fs s₁
        | some v => wpAny (model prog w) (A.over (.forLoop target it body orelse env) fs) (assign target env v) (fun _ s₂ =>
            Seg (model prog w) A R Y n s₀ (.forLoop target it body orelse env) ((execs body env).wrap (turned target it body orelse env) (noted env) id id) fs s₂)
            (fun _ _ => False) s₁) (fun _ _ => False) s)
    (hq : (Code.block orelse env).quiet = true := by rfl) :
    Seg (model prog w) A R Y n s₀ (.forLoop target it body orelse env) ((model prog w).den (.forLoop target it body orelse env)) fs s := by
  show Seg _ A R Y n s₀ _ ((forTurn target it body orelse env).onRaise (fun x => do noteFrame x env; theTreesLotGoes x)) fs s
  rw [Sem.onRaise_eq_wrap]
  unfold forTurn
  refine seg_at ?_
  show Seg _ A R Y n s₀ _ ((((pyNext it).onRaise (fun _ => standAt { target.pos with line := 0 })) >>= fun r => (match r with
    | none => again (.block orelse env)
    | some v => letOwnedTupleGo target it v >>= fun _ => assign target env v >>= fun _ => execs body env >>= fun f => (match f with
      | .next | .cont => again (.forLoop target it body orelse env)
      | .brk => pure (.done .next)
      | .ret v => pure (.done (.ret v)) : Sem PySem.Fin) : Sem PySem.Fin)).wrap _ _ id id) fs s
  rw [Sem.bind_eq_wrap', Sem.wrap_wrap]
  refine seg_wrap (wpAny_onRaise (wpAny_mono h (fun r s₁ h₁ => ?_) fun _ _ h' => h'.elim))
  cases r with
  | none => exact seg_again hq h₁
  | some v =>
    show Seg _ A R Y n s₀ _ ((letOwnedTupleGo target it v >>= fun _ => assign target env v >>= fun _ => execs body env >>= fun f => (match f with
      | .next | .cont => again (.forLoop target it body orelse env)
      | .brk => pure (.done .next)
      | .ret v => pure (.done (.ret v)) : Sem PySem.Fin)).wrap _ _ id id) fs s₁
    rw [hgo v]
    show Seg _ A R Y n s₀ _ ((assign target env v >>= fun _ => execs body env >>= fun f => (match f with
      | .next | .cont => again (.forLoop target it body orelse env)
      | .brk => pure (.done .next)
      | .ret v => pure (.done (.ret v)) : Sem PySem.Fin)).wrap _ _ id id) fs s₁
    rw [Sem.bind_eq_wrap', Sem.wrap_wrap]
    refine seg_wrap (wpAny_mono h₁ (fun _ s₂ h₂ => ?_) fun _ _ h' => h'.elim)
    rw [Sem.bind_eq_wrap', Sem.wrap_wrap]
    refine cast ?_ h₂
    congr 1
    refine Sem.wrap_congr _ id id (fun f => by cases f <;> rfl) (fun e => ?_)
    show _ = ((do noteFrame e env; theTreesLotGoes e : Sem Unit).bind (fun _ => Sem.raise e))
    rw [Sem.bind_eq_wrap]
end

/-! ### the loop of path -/
/-- the pushes and the slots -/
def pu (code : Int) : Nat → Int
  | 0 => code
  | i + 1 => (pu code i).fdiv 32
def sl (size code : Int) : Nat → Int
  | 0 => code.fmod size
  | i + 1 => (5 * sl size code i + pu code (i + 1) + 1).fmod size
/-- ahead of the turn i: the frame, and the iterator of range(N) -/
structure LSt (env : Env) (it : Addr) (N : Nat) (size code : Int) (i : Nat) (h : Heap) : Prop where
  fm : Fm env h size (sl size code i) (pu code i)
  rg : IsRangeIter h it (0 + (i : Nat) * 1) ((N : Int) - (i : Nat)) 1
/-- amid the turn i: the slot is out -/
structure LSy (env : Env) (it : Addr) (N : Nat) (size code : Int) (i : Nat) (h : Heap) : Prop where
  fm : Fm env h size (sl size code i) (pu code i)
  rg : IsRangeIter h it (0 + ((i + 1 : Nat) : Int) * 1) ((N : Int) - ((i + 1 : Nat) : Int)) 1
/-- only the frame and the iterator have changed -/
def Mv (L it : Addr) (s s' : Shared) : Prop := ∃ h' tk, s' = { s with heap := h', toks := tk } ∧ ∀ b o, b ≠ L → b ≠ it → s.heap.get? b = some o → h'.get? b = some o
theorem Mv.refl {L it : Addr} {s : Shared} : Mv L it s s := ⟨s.heap, s.toks, rfl, fun _ _ _ _ e => e⟩
theorem Mv.trans {L it : Addr} {s s1 s2 : Shared} (a : Mv L it s s1) (b : Mv L it s1 s2) : Mv L it s s2 := by
  obtain ⟨h1, t1, rfl, k1⟩ := a
  obtain ⟨h2, t2, rfl, k2⟩ := b
  exact ⟨h2, t2, rfl, fun c o n1 n2 e => k2 c o n1 n2 (k1 c o n1 n2 e)⟩
/-- asleep: the generator's own things stay -/
def Slp (env : Env) (it : Addr) (s s' : Shared) : Prop := ∀ b o, (b = env.locals ∨ b = it ∨ b = mainGlobals) → s.heap.get? b = some o → s'.heap.get? b = some o
theorem LSy.keeps {env : Env} {it : Addr} {N : Nat} {size code : Int} {i : Nat} {s s' : Shared} (x : LSy env it N size code i s.heap) (k : Slp env it s s') : LSy env it N size code i s'.heap :=
  ⟨x.fm.keeps fun b o hb e => k b o (hb.elim .inl fun z => .inr (.inr z)) e, k it _ (.inr (.inl rfl)) x.rg⟩
/-- the wake that began at s₀ has come to s: ahead of the first slot by its own word, later the frame and the iterator alone have changed -/
def Jr (J0 : Shared → Shared → Prop) (L it : Addr) (i : Nat) (s₀ s : Shared) : Prop := if i = 0 then J0 s₀ s else Mv L it s₀ s
def YP (J0 : Shared → Shared → Prop) (env : Env) (it : Addr) (N : Nat) (size code : Int) : Protocol := fun n s₀ v s kap =>
  ∃ i t, n + 1 + i = N ∧ v = .int (sl size code i) t ∧ Jr J0 env.locals it i s₀ s ∧ LSy env it N size code i s.heap ∧ ∀ s', Slp env it s s' → kap (.send .none) s'
def RP (J0 : Shared → Shared → Prop) (L it : Addr) (N : Nat) : GenEnd := fun n s₀ r s => r = .ok (.ret .none) ∧ n = 0 ∧ Jr J0 L it N s₀ s
section
variable {prog : Program} {w : World} {A : Around} {env : Env} {J0 : Shared → Shared → Prop} {it : Addr} {N : Nat} {size code : Int}
abbrev loopBody (p0 p0' p0'' p1 p2 p3 p4 p5 q1 q2 q3 q4 q5 q6 q7 q8 q9 q10 q11 : Pos) (k1 k2 : Nat) : List Stmt :=
  [.Expr (.Yield (some (.Name "slot" p0)) p0') p0'', stPush p1 p2 p3 p4 p5, stSlot q1 q2 q3 q4 q5 q6 q7 q8 q9 q10 q11 k1 k2]
theorem path_seg {pt p0 p0' p0'' p1 p2 p3 p4 p5 q1 q2 q3 q4 q5 q6 q7 q8 q9 q10 q11 : Pos} {k1 k2 : Nat} (T : PEnv env) (hi : interactive env = false) (hL : env.locals ≠ mainGlobals) (hiL : it ≠ env.locals) (hiG : it ≠ mainGlobals) (hz : size ≠ 0)
    (hJ : ∀ s₀ s s', J0 s₀ s → Mv env.locals it s s' → J0 s₀ s') {kf : Result → Sem PySem.Fin} {g : Bool → Bool} {l : List Value} {c : Code} {p : Pos} (hg : g false = false)
    (hA : (A.over (.forLoop (.Name "_" pt) (.ref it) (loopBody p0 p0' p0'' p1 p2 p3 p4 p5 q1 q2 q3 q4 q5 q6 q7 q8 q9 q10 q11 k1 k2) [] env) [.ret kf none (g false) l c p []]).handled = none)
    (hend : ∀ s₀ s, Jr J0 env.locals it N s₀ s → Seg (model prog w) A (RP J0 env.locals it N) (YP J0 env it N size code) 0 s₀ c (kf (.ok .next)) [] s) :
    ∀ (r i : Nat) (s₀ s : Shared), i + r = N → LSt env it N size code i s.heap → Jr J0 env.locals it i s₀ s →
      Seg (model prog w) A (RP J0 env.locals it N) (YP J0 env it N size code) r s₀ (.forLoop (.Name "_" pt) (.ref it) (loopBody p0 p0' p0'' p1 p2 p3 p4 p5 q1 q2 q3 q4 q5 q6 q7 q8 q9 q10 q11 k1 k2) [] env)
        ((model prog w).den (.forLoop (.Name "_" pt) (.ref it) (loopBody p0 p0' p0'' p1 p2 p3 p4 p5 q1 q2 q3 q4 q5 q6 q7 q8 q9 q10 q11 k1 k2) [] env)) [.ret kf none (g false) l c p []] s := by
  have jmv : ∀ i s₀ s s', Jr J0 env.locals it i s₀ s → Mv env.locals it s s' → Jr J0 env.locals it i s₀ s' := fun i s₀ s s' h m => by
    unfold Jr at h ⊢
    split at h
    · rename_i e
      rw [if_pos e]; exact hJ _ _ _ h m
    · rename_i e
      rw [if_neg e]; exact h.trans m
  intro r
  induction r with
  | zero =>
    intro i s₀ s hir x j
    obtain rfl : i = N := by omega
    refine seg_forLoop (fun v => rfl) ?_
    refine wpAny_pyNext_range_end hA x.rg (by omega) fun h' eb => ?_
    show Seg _ _ _ _ 0 s₀ (.block [] env) ((model prog w).den (.block [] env)) _ _
    refine seg_leaf (.ok .next) (hend s₀ _ (jmv _ _ _ _ j ⟨h', s.toks, rfl, fun b o _ hb e => eb b o hb e⟩))
  | succ r ih =>
    intro i s₀ s hir x j
    refine seg_forLoop (fun v => rfl) ?_
    have W := Walks.range (prog := prog) (w := w) hA it 0 1 N
    refine W.item i s _ _ (by omega) x.rg fun v h1 t1 hv rg1 k1' => ?_
    obtain ⟨tv, rfl⟩ := hv
    have kk : ∀ b o, b ≠ it → s.heap.get? b = some o → h1.get? b = some o := fun b o hb e => k1' b o (by simpa using hb) e
    have f1 : Fm env h1 size (sl size code i) (pu code i) := x.fm.keeps fun b o hb e => kk b o (by rcases hb with hb | hb <;> rw [hb] <;> first | exact Ne.symm hiL | exact Ne.symm hiG) e
    have j1 : Jr J0 env.locals it i s₀ { s with heap := h1, toks := t1 } := jmv _ _ _ _ j ⟨h1, t1, rfl, fun b o _ hb e => kk b o hb e⟩
    -- the loop's own name
    show wpAny _ _ (assign (.Name "_" pt) env _) _ _ _
    obtain ⟨⟨m, hn, ⟨a1, e1⟩, ⟨a2, e2⟩, ⟨a3, e3⟩⟩, ⟨mg, hg', gq⟩⟩ := f1
    have n1 : ¬ (("slot" : Str) = "_") := by decide
    have n2 : ¬ (("push" : Str) = "_") := by decide
    have n3 : ¬ (("size" : Str) = "_") := by decide
    refine wpAny_assign_Name (wpAny_storeName_local (s := { s with heap := h1, toks := t1 }) T.low hn (fun h2 hn2 hs2 => ?_) (by rw [T.kind]; rfl))
    have f2 : Fm env h2 size (sl size code i) (pu code i) := ⟨⟨_, hn2, ⟨a1, by rw [if_neg n1]; exact e1⟩, ⟨a2, by rw [if_neg n2]; exact e2⟩, ⟨a3, by rw [if_neg n3]; exact e3⟩⟩, ⟨mg, hg'.sameBut hs2 (Ne.symm hL), gq⟩⟩
    have j2 : Jr J0 env.locals it i s₀ { s with heap := h2, toks := t1 + 1 } := jmv _ _ _ _ j1 ⟨h2, t1 + 1, rfl, fun b o hb _ e => (hs2.2 b hb).trans e⟩
    have y2 : LSy env it N size code i h2 := ⟨f2, (hs2.2 it hiL).trans rg1⟩
    -- yield slot
    refine seg_execs_cons ?_
    refine seg_Expr_Yield (n := r) (gd := id) (by rfl) rfl (by show (g false || false) = false; rw [hg]; rfl) ?_ T.co hi
    obtain ⟨⟨m2, hm2, ⟨b1, c1⟩, _⟩, _⟩ := f2
    refine nm (s := { s with heap := h2, toks := t1 + 1 }) T T.slot hm2 c1 ?_
    intro kap hk
    refine ⟨i, b1, by omega, rfl, j2, y2, fun s'' z => hk .none s'' ?_⟩
    show Seg _ _ _ _ r s'' _ _ _ _
    have y3 := y2.keeps (s := { s with heap := h2, toks := t1 + 1 }) (s' := s'') z
    -- push, slot
    show Seg _ _ _ _ r s'' _ ((execs [stPush p1 p2 p3 p4 p5, stSlot q1 q2 q3 q4 q5 q6 q7 q8 q9 q10 q11 k1 k2] env).wrap _ _ id id) _ s''
    refine seg_execs_cons (seg_wrap (run_push T hL y3.fm fun h4 t4 f4 k4 => ?_))
    show Seg _ _ _ _ r s'' _ ((execs [stSlot q1 q2 q3 q4 q5 q6 q7 q8 q9 q10 q11 k1 k2] env).wrap _ _ id id) _ _
    refine seg_execs_cons (seg_wrap (run_slot (s := { s'' with heap := h4, toks := t4 }) T hL hz f4 fun h5 t5 f5 k5 => ?_))
    show Seg _ _ _ _ r s'' _ ((execs [] env).wrap _ _ id id) _ _
    refine seg_execs_nil ?_
    refine seg_again rfl ?_
    refine ih (i + 1) s'' _ (by omega) ⟨f5, (k5 it _ hiL (k4 it _ hiL y3.rg))⟩ ?_
    unfold Jr
    rw [if_neg (by omega)]
    exact ⟨h5, t5, rfl, fun b o hb _ e => k5 b o hb (k4 b o hb e)⟩
end
end Pth
set_option Elab.async false
set_option linter.all false
set_option maxRecDepth 100000
set_option maxHeartbeats 1000000
/-! Pg: the first wake of a generator, its end by any word -/
namespace Pth
open PySem PySem.Spec PyProof.Rows L2 GenW
def SegG (M : Model) (A : Around) (Φ : End → Shared → Prop) (c : Code) (t : Sem PySem.Fin) (fs : List Frame) (s : Shared) : Prop :=
  ∀ (Γ : PySem.Ctx) (p : Pos), Γ.code = c → Γ.Woken A → ∃ e s', Runs M Γ p t fs s e s' ∧ Φ e s'
section
variable {M : Model} {A : Around} {Φ : End → Shared → Prop} {c : Code} {fs : List Frame} {s : Shared} {env : Env}
theorem sg_wrap {α : Type} {m : Sem α} {K : α → Sem PySem.Fin} {H : Value → Sem PySem.Fin} {gd lv}
    (h : wpAny M (A.over c fs) m (fun a s' => SegG M A Φ c (K a) fs s') (fun x s' => SegG M A Φ c (H x) fs s') s) : SegG M A Φ c (m.wrap K H gd lv) fs s := by
  rintro Γ p rfl hΓ
  exact runs_wrap_of_wp K H gd lv m (h (Γ.over fs) p (hΓ.over fs)) (fun a p' s' h' => h' Γ p' rfl hΓ) (fun x p' s' h' => h' Γ p' rfl hΓ)
theorem sg_at {p' : Pos} {k : Unit → Sem PySem.Fin} (h : SegG M A Φ c (k ()) fs s) : SegG M A Φ c (.at p' k) fs s :=
  sg_wrap (m := standAt p') (K := k) (H := .raise) (gd := id) (lv := id) (wpAny_standAt h)
theorem sg_point {l : List Value} {k : Unit → Sem PySem.Fin} (h : SegG M A Φ c (k ()) fs s) : SegG M A Φ c (.point l k) fs s :=
  sg_wrap (m := point) (K := k) (H := .raise) (gd := id) (lv := fun _ => l) (wpAny_point h)
theorem sg_call {c' : Code} {h g l} {k : Result → Sem PySem.Fin} (hc : ∀ p, SegG M A Φ c' (M.den c') (.ret k h g l c p [] :: fs) s) : SegG M A Φ c (.call c' h g l k) fs s := by
  rintro Γ p rfl hΓ
  obtain ⟨e, s', hr, he⟩ := hc p (Γ.goto c') p rfl (hΓ.goto c')
  exact ⟨e, s', runs_call_seg hr, he⟩
theorem sg_leaf {k h g l c₁ p₁ kp} (r : Result) (hk : SegG M A Φ c₁ (k r) fs s) : SegG M A Φ c (leafOf r) (.ret k h g l c₁ p₁ kp :: fs) s := by
  rintro Γ p rfl hΓ
  obtain ⟨e, s', hr, he⟩ := hk (Γ.goto c₁) p₁ rfl (hΓ.goto c₁)
  exact ⟨e, s', Runs.pop r hr, he⟩
theorem sg_again {c' : Code} (hq : c'.quiet = true) (hc : SegG M A Φ c' (M.den c') fs s) : SegG M A Φ c (.pure (.again c')) fs s := by
  rintro Γ p rfl hΓ
  obtain ⟨e, s', hr, he⟩ := hc (Γ.goto c') p rfl (hΓ.goto c')
  exact ⟨e, s', Runs.head (c₁ := c') (fun _ _ x => .again hq x) hr, he⟩
theorem sg_end (r : Result) (h : Φ (.ret r) s) : SegG M A Φ c (leafOf r) [] s := by
  rintro Γ p rfl _
  exact ⟨.ret r, s, Runs.leaf r, h⟩
theorem sg_yield {v g l} {k : Resume → Sem PySem.Fin} (hfs : splitAtGen fs = none) (h : ∀ p, Φ (.susp v g l k c p fs) s) : SegG M A Φ c (.yield v g l k) fs s := by
  rintro Γ p rfl _
  exact ⟨_, s, Runs.yield' fs hfs, h p⟩
variable {K : Flow → Sem PySem.Fin} {H : Value → Sem PySem.Fin} {gd : Bool → Bool} {lv : List Value → List Value}
theorem sg_execs_nil (h : SegG M A Φ c (K .next) fs s) : SegG M A Φ c ((execs [] env).wrap K H gd lv) fs s := h
theorem sg_execs_cons {st : Stmt} {rest : List Stmt}
    (h : SegG M A Φ c ((exec st env).wrap (fun f => match f with | .next => (execs rest env).wrap K H gd lv | f => K f) H gd lv) fs s) :
    SegG M A Φ c ((execs (st :: rest) env).wrap K H gd lv) fs s := by rw [execs_cons_wrap]; exact h
/-- some statements ahead, by one judgement -/
theorem execs_app_wrap : ∀ (l r : List Stmt) (K : Flow → Sem PySem.Fin), (execs (l ++ r) env).wrap K H gd lv = (execs l env).wrap (fun f => match f with | .next => (execs r env).wrap K H gd lv | f => K f) H gd lv := by
  intro l
  induction l with
  | nil => intro r K; rfl
  | cons a t ih =>
    intro r K
    rw [List.cons_append, execs_cons_wrap, execs_cons_wrap]
    refine Sem.wrap_congr _ gd lv (fun f => ?_) (fun _ => rfl)
    cases f with
    | next => exact ih r K
    | _ => rfl
theorem sg_app {l r : List Stmt} (h : SegG M A Φ c ((execs l env).wrap (fun f => match f with | .next => (execs r env).wrap K H gd lv | f => K f) H gd lv) fs s) : SegG M A Φ c ((execs (l ++ r) env).wrap K H gd lv) fs s := by
  rw [execs_app_wrap]; exact h
theorem sg_For {target iter : Expr} {body orelse : List Stmt} {pos : Pos} (hs : ∀ x, foldedSetIterable iter env x = pure x)
    (h : wpAny M (A.over c fs) (eval iter env) (fun x s₁ => wpAny M (A.over c fs) (pyIter x) (fun it s₂ => ∀ p, SegG M A Φ (.forLoop target it body orelse env) (M.den (.forLoop target it body orelse env)) (.ret (behind env K H gd lv) none (gd false) (lv []) c p [] :: fs) s₂)
      (fun x s' => SegG M A Φ c (H x) fs s') s₁) (fun x s' => SegG M A Φ c (H x) fs s') s) :
    SegG M A Φ c ((exec (.For target iter body orelse pos) env).wrap K H gd lv) fs s := by
  rw [exec_For]
  refine sg_at ?_
  show SegG _ _ _ _ (((eval iter env) >>= fun x => (foldedSetIterable iter env x >>= fun x => (standAt iter.pos >>= fun _ => (holding [x] (pyIter x)) >>= fun it => runOwn (.forLoop target it body orelse env) env))).wrap K H gd lv) fs s
  rw [Sem.bind_eq_wrap', Sem.wrap_wrap]
  refine sg_wrap (wpAny_mono h (fun x s₁ h₁ => ?_) fun _ _ h' => h')
  rw [hs x]
  refine sg_at ?_
  show SegG _ _ _ _ (((holding [x] (pyIter x)) >>= fun it => runOwn (.forLoop target it body orelse env) env).wrap K H gd lv) fs s₁
  rw [Sem.bind_eq_wrap', Sem.wrap_wrap]
  refine sg_wrap (wpAny_holding (wpAny_mono h₁ (fun it s₂ h₂ => ?_) fun _ _ h' => h'))
  exact sg_call h₂
end
section
variable {prog : Program} {w : World} {A : Around} {Φ : End → Shared → Prop} {fs : List Frame} {s : Shared} {env : Env}
theorem sg_forLoop {target : Expr} {it : Value} {body orelse : List Stmt} (hgo : ∀ v, letOwnedTupleGo target it v = pure ())
    (h : wpAny (model prog w) (A.over (.forLoop target it body orelse env) fs) (pyNext it) (fun r s₁ => match r with
        | none => SegG (model prog w) A Φ (.block orelse env) ((model prog w).den (.block orelse env)) fs s₁
        | some v => wpAny (model prog w) (A.over (.forLoop target it body orelse env) fs) (assign target env v) (fun _ s₂ =>
            SegG (model prog w) A Φ (.forLoop target it body orelse env) ((execs body env).wrap (turned target it body orelse env) (noted env) id id) fs s₂)
            (fun _ _ => False) s₁) (fun _ _ => False) s)
    (hq : (Code.block orelse env).quiet = true := by rfl) :
    SegG (model prog w) A Φ (.forLoop target it body orelse env) ((model prog w).den (.forLoop target it body orelse env)) fs s := by
  show SegG _ A Φ _ ((forTurn target it body orelse env).onRaise (fun x => do noteFrame x env; theTreesLotGoes x)) fs s
  rw [Sem.onRaise_eq_wrap]
  unfold forTurn
  refine sg_at ?_
  show SegG _ A Φ _ ((((pyNext it).onRaise (fun _ => standAt { target.pos with line := 0 })) >>= fun r => (match r with
    | none => again (.block orelse env)
    | some v => letOwnedTupleGo target it v >>= fun _ => assign target env v >>= fun _ => execs body env >>= fun f => (match f with
      | .next | .cont => again (.forLoop target it body orelse env)
      | .brk => pure (.done .next)
      | .ret v => pure (.done (.ret v)) : Sem PySem.Fin) : Sem PySem.Fin)).wrap _ _ id id) fs s
  rw [Sem.bind_eq_wrap', Sem.wrap_wrap]
  refine sg_wrap (wpAny_onRaise (wpAny_mono h (fun r s₁ h₁ => ?_) fun _ _ h' => h'.elim))
  cases r with
  | none => exact sg_again hq h₁
  | some v =>
    show SegG _ A Φ _ ((letOwnedTupleGo target it v >>= fun _ => assign target env v >>= fun _ => execs body env >>= fun f => (match f with
      | .next | .cont => again (.forLoop target it body orelse env)
      | .brk => pure (.done .next)
      | .ret v => pure (.done (.ret v)) : Sem PySem.Fin)).wrap _ _ id id) fs s₁
    rw [hgo v]
    show SegG _ A Φ _ ((assign target env v >>= fun _ => execs body env >>= fun f => (match f with
      | .next | .cont => again (.forLoop target it body orelse env)
      | .brk => pure (.done .next)
      | .ret v => pure (.done (.ret v)) : Sem PySem.Fin)).wrap _ _ id id) fs s₁
    rw [Sem.bind_eq_wrap', Sem.wrap_wrap]
    refine sg_wrap (wpAny_mono h₁ (fun _ s₂ h₂ => ?_) fun _ _ h' => h'.elim)
    rw [Sem.bind_eq_wrap', Sem.wrap_wrap]
    refine cast ?_ h₂
    congr 1
    refine Sem.wrap_congr _ id id (fun f => by cases f <;> rfl) (fun e => ?_)
    show _ = ((do noteFrame e env; theTreesLotGoes e : Sem Unit).bind (fun _ => Sem.raise e))
    rw [Sem.bind_eq_wrap]
theorem sg_Expr_Yield {K : Flow → Sem PySem.Fin} {H : Value → Sem PySem.Fin} {e : Expr} {ypos pos : Pos} {c : Code} (hfs : splitAtGen fs = none)
    (h : wpAny (model prog w) (A.over c fs) (eval e env) (fun v s' => ∀ p k, (∀ v, k (.send v) = (dropValue (.Yield (some e) ypos) pos v).wrap K H id id) → Φ (.susp v false [] k c p fs) s')
      (fun x s' => SegG (model prog w) A Φ c (H x) fs s') s) (hco : env.scope.isCoroutine = false := by rfl) (hi : interactive env = false := by rfl) :
    SegG (model prog w) A Φ c ((exec (.Expr (.Yield (some e) ypos) pos) env).wrap K H id id) fs s := by
  rw [exec_Expr env _ pos hi rfl]
  show SegG _ A Φ c (.at pos fun _ => ((eval e env >>= fun v => (standAt ypos >>= fun _ => yieldOut env v)) >>= fun x =>
    dropValue (.Yield (some e) ypos) pos x).wrap K H id id) fs s
  have hy : ∀ v, yieldOut env v = yieldValue v := fun v => by simp only [yieldOut, hco, Bool.false_eq_true, if_false]
  simp only [hy]
  refine sg_at ?_
  rw [Sem.bind_eq_wrap', Sem.bind_eq_wrap', Sem.wrap_wrap, Sem.wrap_wrap]
  refine sg_wrap (wpAny_mono h (fun v s' h' => ?_) fun _ _ x => x)
  refine sg_at ?_
  exact sg_yield hfs fun p => h' p _ fun v => rfl
theorem sg_func {body : List Stmt}
    (h : SegG (model prog w) A Φ (.func body env) ((execs body env).wrap (fun f => .pure (.done (.ret (match f with | .ret v => v | _ => .none))))
      (fun e => (leaving env e).wrap (fun _ => .raise e) .raise id id) id id) fs s) :
    SegG (model prog w) A Φ (.func body env) ((model prog w).den (.func body env)) fs s := by
  show SegG _ A Φ _ (.point [] fun _ => ((execs body env).onRaise (leaving env)) >>= _) fs s
  refine sg_point ?_
  rw [Sem.onRaise_eq_wrap, Sem.bind_eq_wrap', Sem.wrap_wrap]
  rw [Sem.wrap_congr (execs body env) _ _ (K' := fun f => .pure (.done (.ret (match f with | .ret v => v | _ => .none))))
    (H' := fun e => (leaving env e).wrap (fun _ => .raise e) .raise id id) (fun f => by cases f <;> rfl)
    (fun e => by rw [Sem.bind_eq_wrap, Sem.wrap_wrap]; rfl)]
  exact h
end

/-! ### the first turn -/
/-- what the first wake comes to: J the state's own word; no slot at all, or the first one is out -/
def FstP (prog : Program) (w : World) (A : Around) (env : Env) (N : Nat) (size code : Int) (low : List Addr) (J : Shared → Prop) (e : End) (s' : Shared) : Prop := match e with
  | .ret r => r = .ok (.ret .none) ∧ N = 0 ∧ J s'
  | .susp v g l k c p fs => (End.susp v g l k c p fs).quiet = true ∧ 0 < N ∧ (∃ t, v = .int (sl size code 0) t) ∧ J s' ∧ ∃ it : Addr, (∀ b ∈ low, b < it) ∧ LSy env it N size code 0 s'.heap ∧
      ∀ s'', Slp env it s' s'' → Seg (model prog w) A (RP (fun _ _ => True) env.locals it N) (YP (fun _ _ => True) env it N size code) (N - 1) s'' c (k (.send .none)) fs s''
section
variable {prog : Program} {w : World} {A : Around} {env : Env} {it : Addr} {N : Nat} {size code : Int}
theorem path_first {J : Shared → Prop} {low : List Addr} {pt p0 p0' p0'' p1 p2 p3 p4 p5 q1 q2 q3 q4 q5 q6 q7 q8 q9 q10 q11 : Pos} {k1 k2 : Nat} (T : PEnv env) (hi : interactive env = false) (hL : env.locals ≠ mainGlobals) (hiL : it ≠ env.locals) (hiG : it ≠ mainGlobals) (hz : size ≠ 0) (hlow : ∀ b ∈ low, b < it)
    (hJ : ∀ s s', J s → Mv env.locals it s s' → J s') {kf : Result → Sem PySem.Fin} {g : Bool → Bool} {l : List Value} {c : Code} {p : Pos} (hg : g false = false)
    (hA : (A.over (.forLoop (.Name "_" pt) (.ref it) (loopBody p0 p0' p0'' p1 p2 p3 p4 p5 q1 q2 q3 q4 q5 q6 q7 q8 q9 q10 q11 k1 k2) [] env) [.ret kf none (g false) l c p []]).handled = none)
    (hend0 : ∀ s, N = 0 → J s → SegG (model prog w) A (FstP prog w A env N size code low J) c (kf (.ok .next)) [] s)
    (hend : ∀ s₀ s, Jr (fun _ _ => True) env.locals it N s₀ s → Seg (model prog w) A (RP (fun _ _ => True) env.locals it N) (YP (fun _ _ => True) env it N size code) 0 s₀ c (kf (.ok .next)) [] s)
    {s : Shared} (x : LSt env it N size code 0 s.heap) (j : J s) :
    SegG (model prog w) A (FstP prog w A env N size code low J) (.forLoop (.Name "_" pt) (.ref it) (loopBody p0 p0' p0'' p1 p2 p3 p4 p5 q1 q2 q3 q4 q5 q6 q7 q8 q9 q10 q11 k1 k2) [] env)
        ((model prog w).den (.forLoop (.Name "_" pt) (.ref it) (loopBody p0 p0' p0'' p1 p2 p3 p4 p5 q1 q2 q3 q4 q5 q6 q7 q8 q9 q10 q11 k1 k2) [] env)) [.ret kf none (g false) l c p []] s := by
  refine sg_forLoop (fun v => rfl) ?_
  by_cases hN : N = 0
  · refine wpAny_pyNext_range_end hA x.rg (by omega) fun h' eb => ?_
    show SegG _ _ _ (.block [] env) ((model prog w).den (.block [] env)) _ _
    exact sg_leaf (.ok .next) (hend0 _ hN (hJ _ _ j ⟨h', s.toks, rfl, fun b o _ hb e => eb b o hb e⟩))
  · have W := Walks.range (prog := prog) (w := w) hA it 0 1 N
    refine W.item 0 s _ _ (by omega) x.rg fun v h1 t1 hv rg1 k1' => ?_
    obtain ⟨tv, rfl⟩ := hv
    have kk : ∀ b o, b ≠ it → s.heap.get? b = some o → h1.get? b = some o := fun b o hb e => k1' b o (by simpa using hb) e
    have f1 : Fm env h1 size (sl size code 0) (pu code 0) := x.fm.keeps fun b o hb e => kk b o (by rcases hb with hb | hb <;> rw [hb] <;> first | exact Ne.symm hiL | exact Ne.symm hiG) e
    have j1 : J { s with heap := h1, toks := t1 } := hJ _ _ j ⟨h1, t1, rfl, fun b o _ hb e => kk b o hb e⟩
    show wpAny _ _ (assign (.Name "_" pt) env _) _ _ _
    obtain ⟨⟨m, hn, ⟨a1, e1⟩, ⟨a2, e2⟩, ⟨a3, e3⟩⟩, ⟨mg, hg', gq⟩⟩ := f1
    have n1 : ¬ (("slot" : Str) = "_") := by decide
    have n2 : ¬ (("push" : Str) = "_") := by decide
    have n3 : ¬ (("size" : Str) = "_") := by decide
    refine wpAny_assign_Name (wpAny_storeName_local (s := { s with heap := h1, toks := t1 }) T.low hn (fun h2 hn2 hs2 => ?_) (by rw [T.kind]; rfl))
    have f2 : Fm env h2 size (sl size code 0) (pu code 0) := ⟨⟨_, hn2, ⟨a1, by rw [if_neg n1]; exact e1⟩, ⟨a2, by rw [if_neg n2]; exact e2⟩, ⟨a3, by rw [if_neg n3]; exact e3⟩⟩, ⟨mg, hg'.sameBut hs2 (Ne.symm hL), gq⟩⟩
    have j2 : J { s with heap := h2, toks := t1 + 1 } := hJ _ _ j1 ⟨h2, t1 + 1, rfl, fun b o hb _ e => (hs2.2 b hb).trans e⟩
    have y2 : LSy env it N size code 0 h2 := ⟨f2, (hs2.2 it hiL).trans rg1⟩
    refine sg_execs_cons ?_
    refine sg_Expr_Yield (by rfl) ?_ T.co hi
    obtain ⟨⟨m2, hm2, ⟨b1, c1⟩, _⟩, _⟩ := f2
    refine nm (s := { s with heap := h2, toks := t1 + 1 }) T T.slot hm2 c1 ?_
    intro pp kk' hkk
    refine ⟨?_, by omega, ⟨b1, rfl⟩, j2, it, hlow, y2, fun s'' z => ?_⟩
    · show (!(false || (g false || false))) = true
      rw [hg]; rfl
    rw [hkk]
    show Seg _ _ _ _ _ s'' _ (((dropValue (.Yield (some (.Name "slot" p0)) p0') p0'' .none)).wrap _ _ id id) _ s''
    have y3 := y2.keeps (s := { s with heap := h2, toks := t1 + 1 }) (s' := s'') z
    show Seg _ _ _ _ _ s'' _ ((execs [stPush p1 p2 p3 p4 p5, stSlot q1 q2 q3 q4 q5 q6 q7 q8 q9 q10 q11 k1 k2] env).wrap _ _ id id) _ s''
    refine seg_execs_cons (seg_wrap (run_push T hL y3.fm fun h4 t4 f4 k4 => ?_))
    show Seg _ _ _ _ _ s'' _ ((execs [stSlot q1 q2 q3 q4 q5 q6 q7 q8 q9 q10 q11 k1 k2] env).wrap _ _ id id) _ _
    refine seg_execs_cons (seg_wrap (run_slot (s := { s'' with heap := h4, toks := t4 }) T hL hz f4 fun h5 t5 f5 k5 => ?_))
    show Seg _ _ _ _ _ s'' _ ((execs [] env).wrap _ _ id id) _ _
    refine seg_execs_nil ?_
    refine seg_again rfl ?_
    refine path_seg T hi hL hiL hiG hz (fun _ _ _ _ _ => trivial) hg hA hend (N - 1) 1 s'' _ (by omega) ⟨f5, (k5 it _ hiL (k4 it _ hiL y3.rg))⟩ ?_
    unfold Jr
    rw [if_neg (by omega)]
    exact ⟨h5, t5, rfl, fun b o hb _ e => k5 b o hb (k4 b o hb e)⟩
end
end Pth
set_option Elab.async false
set_option linter.all false
set_option maxRecDepth 100000
set_option maxHeartbeats 1000000
/-! Pm: path is called -/
namespace Pth
open PySem PySem.Spec PyProof.Rows L2 GenW
theorem run_range {X : Cx} {pins : List (Addr × Obj)} {σ : L2.St} {H : Hp} {s : Shared} {j : Int} {p pm pos : Pos} (I : Inv X pins σ H s) (hg : Gl X "range") (hm : X.mg "range" = none) (h2 : X.N[2]? = some ("many" : Str)) (hv : Vis X.env.scope "many") (hσ : σ[2]? = some (some (V.int j)))
    (j0 : 0 ≤ j) (j1 : j < 2 ^ 62) :
    wpAny (model X.prog X.w) X.A (eval (.Call (.Name "range" p) [.Name "many" pm] [] pos) X.env) (fun v s1 => wpAny (model X.prog X.w) X.A (pyIter v) (fun itv s2 => ∃ it : Addr, itv = .ref it ∧ X.env.locals < it ∧ (∀ p ∈ X.pn ++ pins, p.1 < it) ∧
      IsRangeIter s2.heap it (0 + ((0 : Nat) : Int) * 1) ((j.toNat : Int) - ((0 : Nat) : Int)) 1 ∧ Inv X pins σ H s2) X.xe s1) X.xe s := by
  refine Call_ (ld_blt I hg hm boot_range (PyProof.Rows.callWith_type1 (thn ((pa_cons (pe_var (i := 2) h2 hv) pa_nil).run pos pins s σ H (fun vs H1 => vs = [.int j] ∧ H1 = H) I ⟨_, hσ, rfl, rfl⟩) fun us s1 ⟨vs, H1, I1, r1, q1⟩ => ?_) rfl rfl))
  obtain ⟨e1, e2⟩ := q1
  subst e1
  subst e2
  cases r1 with
  | cons r rr =>
    cases rr
    obtain ⟨t, rfl⟩ := r
    refine call_range_1 ?_
    refine wpAny_pyIter_range (IsRange.new ..) (small_one (by omega) (by omega) (by omega) j1) ?_
    have I2 : Inv X pins σ H1 { s1 with heap := s1.heap.push { cls := .type "range", data := .fields #[.int 0 s1.toks, .int j t, .int 1 (s1.toks + 1)] }, toks := s1.toks + 1 + 1 } := I1.kept (t' := s1.toks + 1 + 1) fun b o e => Heap.get?_push_of_some _ e
    have hsz : s1.heap.objs.size < (s1.heap.push { cls := .type "range", data := .fields #[.int 0 s1.toks, .int j t, .int 1 (s1.toks + 1)] }).objs.size := by rw [Heap.size_push]; exact Nat.lt_succ_self _
    refine ⟨_, rfl, Nat.lt_trans I1.lt hsz, fun p hp => Nat.lt_trans (Heap.lt_size (I1.pin p hp).1) hsz, ?_, I2.kept (t' := s1.toks + 1 + 1) fun b o e => Heap.get?_push_of_some _ e⟩
    have e1 : (0 : Int) + ((0 : Nat) : Int) * 1 = 0 := by simp
    have e2 : ((j.toNat : Nat) : Int) - ((0 : Nat) : Int) = Builtin.Range.rangeSize 0 j 1 := by rw [rangeSize_one]; split <;> omega
    rw [e1, e2]
    exact Heap.get?_push_size _ rfl

/-- what a call of path gives: a generator that has not begun; what its first wake comes to, from any state that has all that stood there -/
structure PMade (P : Program) (w : World) (k : Nat) (outer : List Env) (H : Hp) (sC : Shared) (N : Nat) (size code : Int) (a : Addr) (g : Nat) (c : Code) (env : Env) (s' : Shared) : Prop where
  T : PEnv env
  nG : env.locals ≠ mainGlobals
  young : sC.heap.objs.size ≤ env.locals
  La : env.locals < a
  aE : a + 1 = s'.heap.objs.size
  gen : s'.heap.IsGen a g
  fresh : s'.gens[g]? = some (.fresh c)
  os : s'.os = sC.os
  bare : AllBare s'.gens
  lim : s'.heap.NoLimit
  keep : ∀ b o, sC.heap.get? b = some o → s'.heap.get? b = some o
  wake : ∀ (A : Around) (s2 : Shared) (xs : List (Addr × Obj)), Room k A → A.frames = some outer → (∀ b o, s'.heap.get? b = some o → s2.heap.get? b = some o) → s2.os = sC.os → AllBare s2.gens → (∀ p ∈ xs, s2.heap.get? p.1 = some p.2 ∧ a < p.1 ∧ ∀ v, p.2.data ≠ .cell v) →
     SegG (model P w) A (FstP P w A env N size code (a :: xs.map (·.1)) (fun s3 => s3.os = sC.os ∧ AllBare s3.gens ∧ Un (frs outer) [] H H sC.heap s3.heap ∧ HOk P w H s3.heap ∧ s3.heap.IsGen a g ∧ s3.heap.NoLimit ∧ ∀ p ∈ xs, s3.heap.get? p.1 = some p.2)) c ((model P w).den c) [] s2
def E00 : XK := fun _ _ _ => False
section
variable {P : Program} {w : World} {K : PySem.W.Frag} {mg : Str → Option Value} {base : Heap}
/-- path's names -/
abbrev pN : List Str := ["code", "size", "many", "slot", "push", "_"]
abbrev pP : List Str := ["code", "size", "many"]
structure PSc (sc : Scope) : Prop where
  S : GScope pN pP sc
  co : sc.isCoroutine = false
  slot : sc.names.lookup ("slot" : Str) = some NameKind.local
  push : sc.names.lookup ("push" : Str) = some NameKind.local
  size : sc.names.lookup ("size" : Str) = some NameKind.local
  many : sc.names.lookup ("many" : Str) = some NameKind.local
  low : sc.names.lookup ("_" : Str) = some NameKind.local
  share : sc.names.lookup ("PUSH_SHARE" : Str) = some NameKind.globalImplicit
  range : sc.names.lookup ("range" : Str) = some NameKind.globalImplicit
theorem PSc.env {sc : Scope} (S : PSc sc) {q : Str} {L f : Addr} {cd : Value} : PEnv (envOfC q sc L f cd) := ⟨S.S.kind, S.co, rfl, S.slot, S.push, S.size, S.low, S.share⟩
theorem path_call {k : Nat} {f : Addr} {name qual : Str} {params : Arguments} {l5 : List Stmt} {scope : Scope} {dV kV doc pm cdv ct oc : Value} {an od : Option Addr} {osl : Array (Option Value)} {tsh : Tok}
    {pt pr pmm pcl pf p0 p0' p0'' p1 p2 p3 p4 p5 q1 q2 q3 q4 q5 q6 q7 q8 q9 q10 q11 : Pos} {k1 k2 : Nat} {size code many : Int}
    (lk : K.lookup f = some ⟨oc, od, .func (PySem.W.fnOf name qual params (l5 ++ [.For (.Name "_" pt) (.Call (.Name "range" pr) [.Name "many" pmm] [] pcl) (loopBody p0 p0' p0'' p1 p2 p3 p4 p5 q1 q2 q3 q4 q5 q6 q7 q8 q9 q10 q11 k1 k2) [] pf]) scope dV kV doc pm an cdv ct), osl⟩)
    (hcd : PySem.W.codeIn K cdv qual = true) (S : PSc scope) (msh : mg "PUSH_SHARE" = some (.int 32 tsh)) (mra : mg "range" = none) (hm0 : 0 ≤ many) (hm1 : many < 2 ^ 62) (hz : size ≠ 0)
    (h5 : ∀ (A : Around) (outer : List Env) (s : Shared) (H : Hp) (pn : List (Addr × Obj)), Room k (A.deeper (envOfC qual scope s.heap.objs.size f cdv)) →
      ∃ t, PSs (gcxOf P w K mg base pN qual scope f cdv A outer s H E00 pn) l5 t ∧ t { nx := fun σ' H' => σ' = [some (.int code), some (.int size), some (.int many), some (.int (code.fmod size)), some (.int code), none] ∧ H' = H, rt := fun _ _ => False } (start pN [.int code, .int size, .int many]) H)
    {A : Around} {outer : List Env} {s : Shared} {H : Hp} {args : Args} {us : List Value} (hr : Room (k + 1) A) (e0 : Env0 P w K mg base A outer s H)
    (hb : BindsTo s (PySem.W.fnOf name qual params (l5 ++ [.For (.Name "_" pt) (.Call (.Name "range" pr) [.Name "many" pmm] [] pcl) (loopBody p0 p0' p0'' p1 p2 p3 p4 p5 q1 q2 q3 q4 q5 q6 q7 q8 q9 q10 q11 k1 k2) [] pf]) scope dV kV doc pm an cdv ct) args (pP.zip us))
    (r : Vals [.int code, .int size, .int many] us) :
    codeAny (model P w) A (.call (.ref f) args) (fun r s' => match r with | .ok (.ret u) => ∃ a g c env, u = .ref a ∧ PMade P w (k + 1) outer H s many.toNat size code a g c env s' | _ => False) s := by
  have hl : [V.int code, .int size, .int many].length = pP.length := rfl
  have KX : K.In s.heap := e0.mod.kin.keeps fun b o e => (e0.bs b o e).1
  have lim : s.heap.NoLimit := e0.mod.nolimit.keeps fun b o e => (e0.bs b o e).1
  have hkind : ∀ y ∈ pP.zip us, scope.names.lookup y.1 = some .local ∨ (scope.names.lookup y.1 = some .cell ∧ ((cellsFrom (s.heap.objs.size + 1) scope.names []).lookup y.1).isSome = true) := fun ⟨n, v⟩ hy => by
    rcases S.S.par n (List.of_mem_zip hy).1 with q | q
    · exact .inl q
    · exact .inr ⟨q, PySem.W.cellsFrom_some _ _ _ (.inl q)⟩
  refine codeAny_call_generator hr.depth (KX _ _ lk) rfl S.S.co S.S.gen rfl (PySem.W.codeRec_of KX hcd) (hb _ _ _ _ ?_)
  refine wpAny_newFunctionEnv_cells S.S.kind hkind fun env he s1 x => ?_
  subst he
  have lim1 : s1.heap.NoLimit := lim.keeps x.toInCall.keep
  refine ⟨lim1, ?_⟩
  obtain ⟨h1, tk, es1, hk1⟩ := x.done
  have os1 : s1.os = s.os := by rw [es1]
  have gen1 : s1.gens = s.gens := by rw [es1]
  have lt1 : s.heap.objs.size < s1.heap.objs.size := x.toInCall.ns.lt
  have sz1 : s.heap.objs.size ≤ s1.heap.objs.size := Nat.le_of_lt lt1
  have kp1 : ∀ b o, s.heap.get? b = some o → s1.heap.get? b = some o := x.toInCall.keep
  have main : ∀ (go : Obj) (nm' qn : Value) (tk2 : Nat), go.cls = .type "generator" → go.data = .fields #[.int s1.gens.size 0, nm', qn] → go.slots = #[] → (∀ h : Heap, (h.push go).get? h.objs.size = some go) →
      PMade P w (k + 1) outer H s many.toNat size code s1.heap.objs.size s1.gens.size (.func (l5 ++ [.For (.Name "_" pt) (.Call (.Name "range" pr) [.Name "many" pmm] [] pcl) (loopBody p0 p0' p0'' p1 p2 p3 p4 p5 q1 q2 q3 q4 q5 q6 q7 q8 q9 q10 q11 k1 k2) [] pf]) (envOfC qual scope s.heap.objs.size f cdv)) (envOfC qual scope s.heap.objs.size f cdv)
        { s1 with gens := s1.gens.push (.fresh (.func (l5 ++ [.For (.Name "_" pt) (.Call (.Name "range" pr) [.Name "many" pmm] [] pcl) (loopBody p0 p0' p0'' p1 p2 p3 p4 p5 q1 q2 q3 q4 q5 q6 q7 q8 q9 q10 q11 k1 k2) [] pf]) (envOfC qual scope s.heap.objs.size f cdv))), toks := tk2, heap := s1.heap.push go } := by
    intro go nm' qn tk2 hgc hgd0 hgs hgp
    have hgen : ∀ h : Heap, h.get? s1.heap.objs.size = some go → h.IsGen s1.heap.objs.size s1.gens.size := fun h e => ⟨go, nm', qn, e, hgc, hgd0, hgs⟩
    have hpushed : (s1.heap.push go).get? s1.heap.objs.size = some go := hgp _
    have hG : mainGlobals < s.heap.objs.size := by
      obtain ⟨o, es, ep, ho, _⟩ := e0.mod.glob
      exact Heap.lt_size (e0.bs _ o ho).1
    have T : PEnv (envOfC qual scope s.heap.objs.size f cdv) := S.env
    have hint : interactive (envOfC qual scope s.heap.objs.size f cdv) = false := by
      unfold interactive
      rw [show (envOfC qual scope s.heap.objs.size f cdv).scope.kind = .function from S.S.kind]
      rfl
    have nG : (envOfC qual scope s.heap.objs.size f cdv).locals ≠ mainGlobals := Nat.ne_of_gt hG
    refine ⟨T, nG, Nat.le_refl _, lt1, ?_, hgen _ hpushed, Array.getElem?_push_size .., os1, ?_, lim1.keeps fun b o e => Heap.get?_push_of_some _ e, fun b o e => Heap.get?_push_of_some _ (kp1 b o e), ?_⟩
    · show _ = (s1.heap.push _).objs.size
      rw [Heap.size_push]
    · exact AllBare.push (by rw [gen1]; exact e0.bare) rfl
    intro Aw s2 xs hrw hfr hk2 hos hba hxs
    have e0w : Env0 P w K mg base Aw outer s H := ⟨hfr, e0.mod, e0.bs, e0.bsz, e0.funs, e0.frf, e0.hok, e0.bare⟩
    obtain ⟨t, ht, hq⟩ := h5 Aw outer s H [(s1.heap.objs.size, go)] (hrw.deeper _)
    have I1 : Inv (gcxOf P w K mg base pN qual scope f cdv Aw outer s H E00 []) [] (start pN [.int code, .int size, .int many]) H s1 := inv_startG S.S hrw.hd e0w hl r x
    have kp2 : ∀ b o, s1.heap.get? b = some o → s2.heap.get? b = some o := fun b o e => hk2 b o (Heap.get?_push_of_some _ e)
    have I2 : Inv (gcxOf P w K mg base pN qual scope f cdv Aw outer s H E00 []) [] (start pN [.int code, .int size, .int many]) H s2 :=
      I1.call' (ch := []) (hos.trans os1.symm) (Un.kept kp2) (I1.hok.kept kp2) hba fun b z => by simp at z
    have hea : s2.heap.get? s1.heap.objs.size = some go := hk2 s1.heap.objs.size go hpushed
    have hgd : ∀ v, go.data ≠ .cell v := fun v q => by rw [hgd0] at q; cases q
    have I3 : Inv (gcxOf P w K mg base pN qual scope f cdv Aw outer s H E00 [(s1.heap.objs.size, go)]) xs (start pN [.int code, .int size, .int many]) H s2 := Inv.pinnedG I2 fun p hp => by
      rcases List.mem_append.mp hp with z | z
      · rw [List.mem_singleton.mp z]
        exact ⟨hea, I1.hok.fresh (Nat.le_refl _), Nat.ne_of_gt lt1, I1.nofs (Nat.le_refl _), hgd⟩
      · obtain ⟨x1, x2, x3⟩ := hxs p z
        exact ⟨x1, I1.hok.fresh (Nat.le_of_lt x2), Nat.ne_of_gt (Nat.lt_trans lt1 x2), I1.nofs (Nat.le_of_lt x2), x3⟩
    -- the state's own word
    have word : ∀ {σ' : L2.St} {s3 : Shared}, Inv (gcxOf P w K mg base pN qual scope f cdv Aw outer s H E00 [(s1.heap.objs.size, go)]) xs σ' H s3 →
        (s3.os = s.os ∧ AllBare s3.gens ∧ Un (frs outer) [] H H s.heap s3.heap ∧ HOk P w H s3.heap ∧ s3.heap.IsGen s1.heap.objs.size s1.gens.size ∧ s3.heap.NoLimit ∧ ∀ p ∈ xs, s3.heap.get? p.1 = some p.2) := fun {σ' s3} J =>
      ⟨J.os, J.bare, J.base, J.hok, hgen _ (J.pin (s1.heap.objs.size, go) (List.mem_append_left _ (List.mem_singleton.mpr rfl))).1, J.nolimit, fun p hp => (J.pin p (List.mem_append_right _ hp)).1⟩
    have fall : ∀ (e : Value) (s' : Shared), (gcxOf P w K mg base pN qual scope f cdv Aw outer s H E00 [(s1.heap.objs.size, go)]).xe e s' → ∀ Φ : End → Shared → Prop, SegG (model P w) Aw Φ (.func (l5 ++ [.For (.Name "_" pt) (.Call (.Name "range" pr) [.Name "many" pmm] [] pcl) (loopBody p0 p0' p0'' p1 p2 p3 p4 p5 q1 q2 q3 q4 q5 q6 q7 q8 q9 q10 q11 k1 k2) [] pf]) (envOfC qual scope s.heap.objs.size f cdv))
        (Sem.wrap (fun _ => .raise e) .raise id id (leaving (envOfC qual scope s.heap.objs.size f cdv) e)) [] s' := fun e s' hx Φ => by
      refine sg_wrap ?_
      rw [over_func]
      refine wpAny_mono (show wpAny (model P w) (Aw.deeper (envOfC qual scope s.heap.objs.size f cdv)) (leaving (envOfC qual scope s.heap.objs.size f cdv) e) (fun _ s'' => CX P w outer H s E00 e s'' ∧ ∀ p ∈ [(s1.heap.objs.size, go)], s''.heap.get? p.1 = some p.2) (fun _ _ => False) s' from hx) (fun _ s'' q => ?_) fun _ s'' q => q.elim
      obtain ⟨⟨_, _, _, _, _, _, _, _, _, _, _, _, z⟩, _⟩ := q
      exact z.elim
    refine sg_func (sg_app (sg_wrap ?_))
    rw [over_func]
    refine wpAny_mono (ht.run xs s2 _ H _ I3 hq) (fun fl s3 hs => ?_) fun e s' hx => fall e s' hx _
    cases fl with
    | brk => obtain ⟨_, _, _, q⟩ := hs; exact False.elim q
    | cont => obtain ⟨_, _, _, q⟩ := hs; exact False.elim q
    | ret u => obtain ⟨_, _, _, _, _, q⟩ := hs; exact False.elim q
    | next =>
      obtain ⟨σ3, H3, J3, e3, e4⟩ := hs
      subst e3
      subst e4
      refine sg_execs_cons (sg_For (fun _ => rfl) ?_)
      rw [over_func]
      have hvis : Vis scope ("many" : Str) := .inl S.many
      refine wpAny_mono (run_range (j := many) (pm := pmm) (p := pr) (pos := pcl) J3 S.range mra rfl hvis rfl hm0 hm1) (fun v s4 h4 => wpAny_mono h4 (fun itv s5 h5' => ?_) fun e s' hx => fall e s' hx _) fun e s' hx => fall e s' hx _
      obtain ⟨it, rfl, hLit, hpit, hrg, J5⟩ := h5'
      have hLit' : s.heap.objs.size < it := hLit
      have hait : s1.heap.objs.size < it := hpit (s1.heap.objs.size, go) (List.mem_append_left _ (List.mem_singleton.mpr rfl))
      have hlows : ∀ b ∈ s1.heap.objs.size :: xs.map (·.1), b < it := fun b hb => by
        rcases List.mem_cons.mp hb with z | z
        · rw [z]; exact hait
        · obtain ⟨p, hp, rfl⟩ := List.mem_map.mp z
          exact hpit p (List.mem_append_right _ hp)
      have hit0 : it ≠ (envOfC qual scope s.heap.objs.size f cdv).locals := Nat.ne_of_gt hLit'
      have hitG : it ≠ mainGlobals := Nat.ne_of_gt (Nat.lt_trans hG hLit')
      have fm5 : Fm (envOfC qual scope s.heap.objs.size f cdv) s5.heap size (code.fmod size) code := by
        obtain ⟨m, hn, hl5⟩ := J5.loc
        have get : ∀ (i : Nat) (x : Str) (n : Int), pN[i]? = some x → scope.names.lookup x = some NameKind.local → ([some (.int code), some (.int size), some (.int many), some (.int (code.fmod size)), some (.int code), none] : L2.St)[i]? = some (some (.int n)) → ∃ t, m x = some (.int n t) := fun i x n h1 h2 h3 => by
          obtain ⟨u, ru, lu⟩ := hl5 i x _ h1 h3 (.inl h2)
          obtain ⟨t, rfl⟩ := ru
          rcases lu with ⟨_, hm⟩ | ⟨hk, _⟩
          · exact ⟨t, hm⟩
          · have hk' : scope.names.lookup x = some .cell ∨ scope.names.lookup x = some .free := hk
            rw [h2] at hk'
            rcases hk' with z | z <;> cases z
        exact ⟨⟨m, hn, get 3 _ _ rfl S.slot rfl, get 4 _ _ rfl S.push rfl, get 1 _ _ rfl S.size rfl⟩, ⟨mg, J5.mod.glob.keeps J5.bk, tsh, msh⟩⟩
      intro pp
      have ltL : ∀ b o, s.heap.get? b = some o → b ≠ s.heap.objs.size ∧ b ≠ it := fun b o e => ⟨Nat.ne_of_lt (Heap.lt_size e), Nat.ne_of_lt (Nat.lt_trans (Heap.lt_size e) hLit')⟩
      refine path_first T hint nG hit0 hitG hz hlows (fun sa sb hja hm => ?_) rfl ?_ (fun sa hN hja => ?_) (fun s₀ sa hja => ?_) ⟨fm5, hrg⟩ (word J5)
      · obtain ⟨h', tk', rfl, hk⟩ := hm
        obtain ⟨a1, a2, a3, a4, a5, a6, a7⟩ := hja
        have hLn : H3 s.heap.objs.size = none := e0.hok.fresh (Nat.le_refl _)
        have hIn : H3 it = none := e0.hok.fresh (Nat.le_of_lt hLit')
        have nt : ∀ b u, H3 b = some u → b ≠ s.heap.objs.size ∧ b ≠ it := fun b u e => ⟨ne_of_none e hLn, ne_of_none e hIn⟩
        have hcS : cStatics < s.heap.objs.size := let ⟨_, hn, _⟩ := lim; hn.lt
        refine ⟨a1, a2, ⟨fun b o e n hb hx => ?_, fun b o e n hb hx => ?_, a3.free, fun b o e hx => ?_, a3.tups, a3.frzs, a3.tbls⟩, fun b u e => ?_, ?_, ?_, fun p hp => hk p.1 p.2 (Nat.ne_of_gt (Nat.lt_trans lt1 (hxs p hp).2.1)) (Nat.ne_of_lt (hlows p.1 (List.mem_cons_of_mem _ (List.mem_map.mpr ⟨p, hp, rfl⟩)))) (a7 p hp)⟩
        · exact hk b o (ltL b o e).1 (ltL b o e).2 (a3.keep b o e n hb hx)
        · obtain ⟨sl', e'⟩ := a3.slot b o e n hb hx
          exact ⟨sl', hk b _ (ltL b o e).1 (ltL b o e).2 e'⟩
        · obtain ⟨o', e'⟩ := a3.there b o e hx
          exact ⟨o', hk b _ (ltL b o e).1 (ltL b o e).2 e'⟩
        · refine (a4 b u e).stay (fun c v hc q => ?_) (fun _ z => z) fun _ _ z => z
          rcases hc with hc | hc
          · rw [hc] at q ⊢
            exact hk b v (nt b u e).1 (nt b u e).2 q
          · exact hk c v (nt c _ hc).1 (nt c _ hc).2 q
        · obtain ⟨o, n1, n2, ho, z⟩ := a5
          exact ⟨o, n1, n2, hk _ o (Nat.ne_of_gt lt1) (Nat.ne_of_lt hait) ho, z⟩
        · obtain ⟨mc, hns, hnn⟩ := a6
          exact ⟨mc, hns.at' fun o e => hk _ o (Nat.ne_of_lt hcS) (Nat.ne_of_lt (Nat.lt_trans hcS hLit')) e, hnn⟩
      · exact hrw.hd
      · exact sg_end (.ok (.ret .none)) ⟨rfl, hN, hja⟩
      · exact seg_end (.ok (.ret .none)) ⟨rfl, rfl, hja⟩
  exact ⟨_, _, _, _, rfl, main _ _ _ _ rfl rfl rfl fun h => Heap.get?_push_size _ rfl⟩
end
end Pth
set_option Elab.async false
set_option linter.all false
set_option maxRecDepth 100000
set_option maxHeartbeats 1000000
/-! Pf: a for over path(..), its body by a judgement; list(path(..)) -/
namespace Pth
open PySem PySem.Spec PyProof.Rows L2 GenW
open Sem (wp)
section
variable {M : Model}
theorem resume_first {A : Around} {Φ : End → Shared → Prop} {E : Value → Shared → Prop} {s : Shared} {g : Nat} {c : Code} {l : List Value} {α : Type} {k : GenResult → Sem α} {Q : α → Shared → Prop} (hg : s.gens[g]? = some (.fresh c))
    (hgo : SegG M A Φ c (M.den c) [] (s.setGen g .running))
    (hR : ∀ e s₁, Φ e s₁ → e.quiet = true ∧ wpAny M A (k e.result) Q E (s₁.setGen g e.genState)) : wpAny M A (.resume g (.send .none) l k) Q E s := by
  intro Γ p hΓ
  rw [Sem.wp_resume]
  obtain ⟨e₁, s₁, hr, he⟩ := hgo (Γ.wake c p) p rfl (hΓ.wake c p)
  obtain ⟨hq, hw⟩ := hR e₁ s₁ he
  exact ⟨_, _, by unfold Wakes; rw [hg]; exact ⟨e₁, s₁, hr, hq, rfl, rfl⟩, hw Γ p hΓ⟩
theorem resume_later {A : Around} {R : GenEnd} {Y : Protocol} {n : Nat} {E : Value → Shared → Prop} {s : Shared} {g : Nat} {k₀ : Resume → Sem PySem.Fin} {l₀ : List Value} {c₀ : Code} {p₀ : Pos} {fs₀ : List Frame} {cl₀ : Bool} {r : Resume} {l : List Value} {α : Type} {k : GenResult → Sem α} {Q : α → Shared → Prop}
    (hg : s.gens[g]? = some (.suspended k₀ l₀ c₀ p₀ fs₀ cl₀))
    (hgo : Seg M A R Y n (s.setGen g .running) c₀ (k₀ r) fs₀ (s.setGen g .running))
    (hR : ∀ e s₁, SegEnd R Y n (Seg.next M A R Y n) (s.setGen g .running) e s₁ → e.quiet = true ∧ wpAny M A (k e.result) Q E (s₁.setGen g e.genState)) : wpAny M A (.resume g r l k) Q E s := by
  intro Γ p hΓ
  rw [Sem.wp_resume]
  obtain ⟨e₁, s₁, hr, he⟩ := seg_iff.mp hgo (Γ.wake c₀ p) p₀ rfl (hΓ.wake c₀ p)
  obtain ⟨hq, hw⟩ := hR e₁ s₁ he
  exact ⟨_, _, by unfold Wakes; rw [hg]; exact ⟨e₁, s₁, hr, hq, rfl, rfl⟩, hw Γ p hΓ⟩
end
section
variable {P : Program} {w : World} {A : Around} {E : Value → Shared → Prop} {s : Shared}
theorem next_first {a : Addr} {g : Nat} {c : Code} {Φ : End → Shared → Prop} {Q : Option Value → Shared → Prop} (hh : A.handled = none) (hl : s.heap.NoLimit) (hroom : A.depth < recursionLimit) (hg : s.heap.IsGen a g) (hgs : s.gens[g]? = some (.fresh c))
    (hgo : SegG (model P w) A.in1 Φ c ((model P w).den c) [] (s.setGen g .running))
    (hR : ∀ e s₁, Φ e s₁ → (e = .ret (.ok (.ret .none)) ∧ ∀ h', (∀ b o, s₁.heap.get? b = some o → h'.get? b = some o) → Q none { s₁.setGen g .finished with heap := h' }) ∨
      ∃ v gd l k c' p' fs, e = .susp v gd l k c' p' fs ∧ e.quiet = true ∧ Q (some v) (s₁.setGen g e.genState)) :
    wpAny (model P w) A (pyNext (.ref a)) Q E s := by
  unfold pyNext
  refine wpAny_bind (wpAny_attempt (wpAny_callSpecial?_slot (name := Str.ofString "__next__") hg.typeIs slot_gen_next
    (wpAny_call_entry slot_gen_next hg.typeIs entry_gen_next ?_ (args_gen_next _))))
  show wpAny _ A.in1 (Builtin.Generator.genWake (.ref a) (.send .none)) _ _ s
  unfold Builtin.Generator.genWake
  refine wpAny_bind (wpAny_holding (wpAny_genNumber hg (wpAny_bind (wpAny_genState hgs ?_))))
  refine wpAny_bind (wpAny_roomToWake hl hroom ?_)
  show wpAny _ A.in1 (.resume g (.send .none) [] _) _ _ s
  refine resume_first hgs hgo fun e s₁ he => ?_
  rcases hR e s₁ he with ⟨rfl, h⟩ | ⟨v, gd, l, k, c', p', fs, rfl, hq, h⟩
  · refine ⟨rfl, ?_⟩
    show wpAny _ A.in1 (newExc (.type "StopIteration") [] >>= _) _ _ _
    refine wpAny_bind ?_
    simp only [newExc, newTuple]
    refine wpAny_bind (wpAny_newObj_type ?_ (by size_fits))
    refine wpAny_bind (m := firstArgMember _ _) (wpAny_of_eq (a := Value.none) (by first | rfl | (simp only [firstArgMember]; rfl)) ?_)
    refine wpAny_newObj_type ?_ (by size_fits)
    simp only [raiseNew]
    refine wpAny_bind (wpAny_bind (wpAny_handled ?_))
    first | rw [show A.in1.handled = none from hh] | rw [hh]
    refine wpAny_throw ?_
    refine wpAny_bind (wpAny_isInstance (T := "StopIteration") (b := true) ⟨_, Heap.get?_push_size _ rfl, rfl⟩ isSubtype_stop ?_)
    exact wpAny_pure (h _ fun b o hb => Heap.get?_push_of_some _ (Heap.get?_push_of_some _ hb))
  · exact ⟨hq, wpAny_pure ⟨v, rfl, wpAny_pure h⟩⟩
theorem next_later {a : Addr} {g n : Nat} {R : GenEnd} {Y : Protocol} {k₀ : Resume → Sem PySem.Fin} {l₀ : List Value} {c₀ : Code} {p₀ : Pos} {fs₀ : List Frame} {cl₀ : Bool} {Q : Option Value → Shared → Prop} (hh : A.handled = none) (hl : s.heap.NoLimit) (hroom : A.depth < recursionLimit) (hg : s.heap.IsGen a g)
    (hgs : s.gens[g]? = some (.suspended k₀ l₀ c₀ p₀ fs₀ cl₀))
    (hgo : Seg (model P w) A.in1 R Y n (s.setGen g .running) c₀ (k₀ (.send .none)) fs₀ (s.setGen g .running))
    (hR : ∀ r s₁, R n (s.setGen g .running) r s₁ → r = .ok (.ret .none) ∧ ∀ h', (∀ b o, s₁.heap.get? b = some o → h'.get? b = some o) → Q none { s₁.setGen g .finished with heap := h' })
    (hY : ∀ v gd l k c' p' fs s₁, (End.susp v gd l k c' p' fs).quiet = true → Y (n - 1) (s.setGen g .running) v s₁ (fun r s'' => Seg.next (model P w) A.in1 R Y n c' (k r) fs s'') → Q (some v) (s₁.setGen g (End.susp v gd l k c' p' fs).genState)) :
    wpAny (model P w) A (pyNext (.ref a)) Q E s := by
  unfold pyNext
  refine wpAny_bind (wpAny_attempt (wpAny_callSpecial?_slot (name := Str.ofString "__next__") hg.typeIs slot_gen_next
    (wpAny_call_entry slot_gen_next hg.typeIs entry_gen_next ?_ (args_gen_next _))))
  show wpAny _ A.in1 (Builtin.Generator.genWake (.ref a) (.send .none)) _ _ s
  unfold Builtin.Generator.genWake
  refine wpAny_bind (wpAny_holding (wpAny_genNumber hg (wpAny_bind (wpAny_genState hgs ?_))))
  refine wpAny_bind (wpAny_roomToWake hl hroom ?_)
  show wpAny _ A.in1 (.resume g (.send .none) [] _) _ _ s
  refine resume_later hgs hgo fun e s₁ he => ?_
  cases e with
  | ret r =>
    obtain ⟨rfl, h⟩ := hR r s₁ he
    refine ⟨rfl, ?_⟩
    show wpAny _ A.in1 (newExc (.type "StopIteration") [] >>= _) _ _ _
    refine wpAny_bind ?_
    simp only [newExc, newTuple]
    refine wpAny_bind (wpAny_newObj_type ?_ (by size_fits))
    refine wpAny_bind (m := firstArgMember _ _) (wpAny_of_eq (a := Value.none) (by first | rfl | (simp only [firstArgMember]; rfl)) ?_)
    refine wpAny_newObj_type ?_ (by size_fits)
    simp only [raiseNew]
    refine wpAny_bind (wpAny_bind (wpAny_handled ?_))
    first | rw [show A.in1.handled = none from hh] | rw [hh]
    refine wpAny_throw ?_
    refine wpAny_bind (wpAny_isInstance (T := "StopIteration") (b := true) ⟨_, Heap.get?_push_size _ rfl, rfl⟩ isSubtype_stop ?_)
    exact wpAny_pure (h _ fun b o hb => Heap.get?_push_of_some _ (Heap.get?_push_of_some _ hb))
  | susp v gd l k c' p' fs =>
    obtain ⟨hq, h⟩ := he
    exact ⟨hq, wpAny_pure ⟨v, rfl, wpAny_pure (hY v gd l k c' p' fs s₁ hq h)⟩⟩
end

/-! ### the consumer -/
/-- what path takes -/
def POk (code size many : Int) : Prop := 0 ≤ code ∧ code < 4294967296 ∧ size ∈ ([8, 16, 32, 64, 128, 256, 512, 1024, 2048, 4096] : List Int) ∧ 0 ≤ many ∧ many < 2 ^ 62
/-- path, called -/
def PathDef (P : Program) (w : World) (K : PySem.W.Frag) (mg : Str → Option Value) (base : Heap) (k : Nat) (f : Addr) (fd : FuncData) : Prop :=
  ∀ {code size many : Int}, POk code size many → ∀ {A : Around} {outer : List Env} {s : Shared} {H : Hp} {args : Args} {us : List Value}, Room k A → Env0 P w K mg base A outer s H → BindsTo s fd args (pP.zip us) → Vals [.int code, .int size, .int many] us →
    codeAny (model P w) A (.call (.ref f) args) (fun r s' => match r with | .ok (.ret u) => ∃ a g c env, u = .ref a ∧ PMade P w k outer H s many.toNat size code a g c env s' | _ => False) s
section
variable {X : Cx} {pins : List (Addr × Obj)} {σ : L2.St} {H : Hp} {s : Shared}
/-- with other generators -/
theorem Inv.withG (I : Inv X pins σ H s) {G : Array GenState} (h : AllBare G) : Inv X pins σ H (Fk.gw s G) := ⟨I.ok, I.os, h, I.base, I.loc, I.cell, I.free, I.freeC, I.pin, I.hok, I.len⟩
/-- where the generator at a stands, i slots out, asleep -/
structure Asleep (X : Cx) (B : Around) (env : Env) (a : Addr) (g : Nat) (N : Nat) (size code : Int) (low : Nat) (i : Nat) (it : Addr) (H : Hp) (s : Shared) : Prop where
  lowIt : low ≤ it
  gen : s.heap.IsGen a g
  st : LSy env it N size code (i - 1) s.heap
  nT : ∀ b ∈ [a, env.locals, it], H b = none
  at_ : ∃ k l c p fs cl, s.gens[g]? = some (.suspended k l c p fs cl) ∧ cl = false ∧ ∀ s'', Slp env it s s'' → Seg (model X.prog X.w) B (RP (fun _ _ => True) env.locals it N) (YP (fun _ _ => True) env it N size code) (N - i) s'' c (k (.send .none)) fs s''
/-- at the loop's head, i slots out -/
inductive Head (X : Cx) (B : Around) (s0 : Shared) (σ0 : L2.St) (H0 : Hp) (env : Env) (a : Addr) (g : Nat) (N : Nat) (size code : Int) (low : Nat) : Nat → L2.St → Hp → Shared → Prop
  | begin : Head X B s0 σ0 H0 env a g N size code low 0 σ0 H0 s0
  | amid {i : Nat} {it : Addr} {σ : L2.St} {H : Hp} {s : Shared} : 0 < i → Asleep X B env a g N size code low i it H s → Head X B s0 σ0 H0 env a g N size code low i σ H s
/-- the slots, as they come: Pv i holds ahead of the turn i -/
def tForP (i : Nat) (ta : TA) (tb : TS) : TS := fun D σ H => ta σ H fun vs H1 => ∃ code size many : Int, vs = [.int code, .int size, .int many] ∧ POk code size many ∧ ∃ Pv : Nat → L2.St → Hp → Prop, Pv 0 σ H1 ∧
  (∀ n σ' H', n < many.toNat → Pv n σ' H' → tb { D with nx := Pv (n + 1), ct := Pv (n + 1), bk := D.nx } (σ'.set i (some (.int (sl size code n)))) H') ∧ ∀ σ' H', Pv many.toNat σ' H' → D.nx σ' H'

/-- the generator's own things have turned -/
theorem inv_mv {L it : Addr} {s' : Shared} (I : Inv X pins σ H s) (m : Mv L it s s') (f1 : FpOk X pins H L) (f2 : FpOk X pins H it) : Inv X pins σ H s' := by
  obtain ⟨h', tk, rfl, k⟩ := m
  obtain ⟨a0, a1, a2, a3, a4, a5⟩ := f1
  obtain ⟨b0, b1, b2, b3, b4, b5⟩ := f2
  have ne : ∀ b, b ∉ [L, it] → b ≠ L ∧ b ≠ it := fun b hb => ⟨fun z => hb (by rw [z]; simp), fun z => hb (by rw [z]; simp)⟩
  have nt : ∀ b u, H b = some u → b ≠ L ∧ b ≠ it := fun b u e => ⟨ne_of_none e a0, ne_of_none e b0⟩
  refine I.step (g' := s.gens) (d' := s.drawn) (ch := [L, it]) (fun b hb => ?_) (fun b o _ _ hc e _ => k b o (ne b hc).1 (ne b hc).2 e) (fun b o _ _ hc e _ => ⟨o.slots, k b o (ne b hc).1 (ne b hc).2 e⟩) (fun _ _ _ _ n => n)
    (fun b o hc e => ⟨o, k b o (ne b hc).1 (ne b hc).2 e⟩) (fun _ _ e => e) (fun _ _ _ e => e) (fun b ps e => ⟨#[], by rw [e]; simp⟩) (fun m hm => ?_) (fun b u e => ?_) I.bare
  · rcases List.mem_cons.mp hb with e | hb
    · rw [e]; exact ⟨a3, a1, a4, a5⟩
    · rw [List.mem_singleton.mp hb]; exact ⟨b3, b1, b4, b5⟩
  · obtain ⟨o, es, ep, ho, r⟩ := hm
    exact ⟨o, es, ep, k _ o (Ne.symm a1) (Ne.symm b1) ho, r⟩
  · refine (I.hok b u e).stay (fun c v hc q => ?_) (fun _ q => q) fun _ _ q => q
    rcases hc with z | z
    · rw [z] at q ⊢
      exact k b v (nt b u e).1 (nt b u e).2 q
    · exact k c v (nt c _ z).1 (nt c _ z).2 q
theorem turn_body {B : Around} {env : Env} {a g : Nat} {N : Nat} {size code : Int} {low : Nat} {i ix : Nat} {it : Addr} {x : Str} {px : Pos} {body : List Stmt} {tb : TS} {D : Ends} {N' : L2.St → Hp → Prop} {v : V} {u : Value} {E : Value → Shared → Prop}
    (I : Inv X pins σ H s) (hA : Asleep X B env a g N size code low i it H s) (yg : ∀ b ∈ [a, env.locals, it], ∀ H' : Hp, H' b = none → FpOk X pins H' b) (hN : X.N.Nodup) (hi : X.N[ix]? = some x) (hx : Loc X.env.scope x) (hf : X.fn x = true ∨ X.env.scope.names.lookup x = some .local)
    (hbd : PSs X.nox body tb) (rv : RelV v u) (ht : tb { D with nx := N', ct := N', bk := D.nx } (σ.set ix (some v)) H) :
    wpAny (model X.prog X.w) X.A (assign (.Name x px) X.env u) (fun _ s6 => wpAny (model X.prog X.w) X.A (execs body X.env) (fun f s7 => match f with
      | .next | .cont => ∃ σ7 H7, Inv X pins σ7 H7 s7 ∧ N' σ7 H7 ∧ Asleep X B env a g N size code low i it H7 s7
      | .brk => ∃ σ7 H7, Inv X pins σ7 H7 s7 ∧ D.nx σ7 H7
      | .ret u => ∃ v σ7 H7, Inv X pins σ7 H7 s7 ∧ RelV v u ∧ D.rt v H7) E s6) E s := by
  obtain ⟨hlow, hgen, hst, hnT, ⟨k, l, c, p, fs, cl, hgs, hcl, hsl⟩⟩ := hA
  have R := Fk.rel_faked s.gens
  have bF : AllBare (Fk.faked s.gens) := Fk.bare_faked I.bare
  have I5 : Inv X pins σ H (Fk.gw s (Fk.faked s.gens)) := Inv.withG I bF
  obtain ⟨mm, hmm, _⟩ := hst.fm.ns
  have hob : ∀ b ∈ [a, env.locals, it], ∃ o, s.heap.get? b = some o ∧ ∀ v, o.data ≠ .cell v := fun b hb => by
    rcases List.mem_cons.mp hb with e | hb
    · rw [e]
      obtain ⟨o, n1, n2, ho, _, hd, _⟩ := hgen
      exact ⟨o, ho, fun v z => by rw [hd] at z; cases z⟩
    · rcases List.mem_cons.mp hb with e | hb
      · rw [e]
        obtain ⟨o, es, ep, ho, hd, _⟩ := hmm
        exact ⟨o, ho, fun v z => by rw [hd] at z; cases z⟩
      · rw [List.mem_singleton.mp hb]
        exact ⟨_, hst.rg, fun v z => by
          have z' : Data.fields _ = Data.cell v := z
          cases z'⟩
  have Ip : Inv X (pins ++ pinsAt [a, env.locals, it] s.heap) σ H (Fk.gw s (Fk.faked s.gens)) := I5.pinned (fun b hb => yg b hb H (hnT b hb)) hob
  have hbare : ∀ i x, Fk.sleepers s.gens i = some x → x.bare = true := Fk.sleepers_bare I.bare
  -- over the replaced ones
  have h1 : wpAny (model X.prog X.w) X.A (assign (.Name x px) X.env u) (fun _ s6 => wpAny (model X.prog X.w) X.A (execs body X.env) (SP X.nox (pins ++ pinsAt [a, env.locals, it] s.heap) { D with nx := N', ct := N', bk := D.nx }) (fun _ _ => False) s6) (fun _ _ => False) (Fk.gw s (Fk.faked s.gens)) := by
    refine wpAny_assign_Name (store_ok Ip hN hi hx rv (fun s6 I6 => ?_) hf)
    exact hbd.run _ s6 _ H _ (I6.wish _) ht
  have h2 := Fk.wpAny_fk (G := s.gens) R h1
  refine wpAny_mono h2 (fun _ s6 h6 => ?_) fun _ _ ⟨_, _, z⟩ => z.elim
  obtain ⟨G0, R0, h6⟩ := h6
  have h7 := Fk.wpAny_fk (s := Fk.gw s6 G0) (G := s6.gens) R0 h6
  refine wpAny_mono h7 (fun f s7 q7 => ?_) fun _ _ ⟨_, _, z⟩ => z.elim
  obtain ⟨G1, R1, q7⟩ := q7
  have real : ∀ {σ7 : L2.St} {H7 : Hp}, Inv X.nox (pins ++ pinsAt [a, env.locals, it] s.heap) σ7 H7 (Fk.gw s7 G1) → Inv X (pins ++ pinsAt [a, env.locals, it] s.heap) σ7 H7 s7 := fun {σ7 H7} J => by
    have b7 : AllBare s7.gens := Fk.bare_real R1 hbare J.bare
    exact Inv.withG (s := Fk.gw s7 G1) J.unwish b7
  have asl : ∀ {σ7 : L2.St} {H7 : Hp}, Inv X (pins ++ pinsAt [a, env.locals, it] s.heap) σ7 H7 s7 → Asleep X B env a g N size code low i it H7 s7 := fun {σ7 H7} J => by
    have kept : ∀ b ∈ [a, env.locals, it], ∀ o, s.heap.get? b = some o → s7.heap.get? b = some o ∧ H7 b = none := fun b hb o e => by
      have := J.pin (b, o) (List.mem_append_right _ (List.mem_append_right _ (mem_pinsAt hb e)))
      exact ⟨this.1, this.2.1⟩
    have slp : Slp env it s s7 := fun b o hb e => by
      rcases hb with e1 | e1 | e1
      · exact (kept b (by rw [e1]; simp) o e).1
      · exact (kept b (by rw [e1]; simp) o e).1
      · obtain ⟨og, es, ep, ho, _⟩ := I.mod.glob
        have z1 := I.bk _ _ ho
        have z2 := J.bk _ _ ho
        rw [e1] at e ⊢
        rw [z1] at e
        cases e
        exact z2
    refine ⟨hlow, ?_, hst.keeps slp, fun b hb => ?_, k, l, c, p, fs, cl, ?_, hcl, fun s'' z => hsl s'' fun b o hb e => z b o hb (slp b o hb e)⟩
    · obtain ⟨o, n1, n2, ho, z⟩ := hgen
      exact ⟨o, n1, n2, (kept a (by simp) o ho).1, z⟩
    · obtain ⟨o, ho, _⟩ := hob b hb
      exact (kept b hb o ho).2
    · exact (R1.fake g _ (Fk.sleepers_at hgs rfl)).2.2
  cases f with
  | next => obtain ⟨σ7, H7, J, n7⟩ := q7; exact ⟨σ7, H7, (real J).unpinned, n7, asl (real J)⟩
  | cont => obtain ⟨σ7, H7, J, n7⟩ := q7; exact ⟨σ7, H7, (real J).unpinned, n7, asl (real J)⟩
  | brk => obtain ⟨σ7, H7, J, n7⟩ := q7; exact ⟨σ7, H7, (real J).unpinned, n7⟩
  | ret u => obtain ⟨v7, σ7, H7, J, r7, n7⟩ := q7; exact ⟨v7, σ7, H7, (real J).unpinned, r7, n7⟩

/-- what a turn of the loop comes to -/
def TurnP (X : Cx) (pins : List (Addr × Obj)) (env : Env) (a g N : Nat) (size code : Int) (low : Nat) (it : Addr) (i : Nat) (D : Ends) (N' : L2.St → Hp → Prop) (f : Flow) (s7 : Shared) : Prop := match f with
  | .next | .cont => ∃ σ7 H7, Inv X pins σ7 H7 s7 ∧ N' σ7 H7 ∧ Asleep X X.A.in1 env a g N size code low i it H7 s7
  | .brk => ∃ σ7 H7, Inv X pins σ7 H7 s7 ∧ D.nx σ7 H7
  | .ret u => ∃ v σ7 H7, Inv X pins σ7 H7 s7 ∧ RelV v u ∧ D.rt v H7
theorem ps_forP {f : Addr} {fd : FuncData} {k ix : Nat} {nmp x : Str} {px p pos' pos : Pos} {e : Expr} {es : List Expr} {ta : TA} {body : List Stmt} {tb : TS}
    (F : PathDef X.prog X.w X.K X.mg X.base k f fd) (hr : Room (k + 1) X.A) (hg : Gl X nmp) (hm : X.mg nmp = some (.ref f)) (hk : PySem.W.keepIn X.K (.ref f) = true) (hb : Binds X.K fd pP []) (ha : PA X (e :: es) ta) (hp : PassesOwn (model X.prog X.w) X.A X.env X.xe) (hc : X.calm = true)
    (hN : X.N.Nodup) (hi : X.N[ix]? = some x) (hx : Loc X.env.scope x) (hbd : PSs X.nox body tb) (hf : X.fn x = true ∨ X.env.scope.names.lookup x = some .local := by first | exact .inl rfl | exact .inr rfl | assumption)
    (hdb : (nmp == ("__debug__" : Str)) = false := by decide) (he : starEach (e :: es) X.env = (false, eval e X.env) :: starEach es X.env := by rfl) (hpl : (backTo pos' (starEach es X.env)).any (·.1) = false := by rfl)
    (hs : ∀ v, foldedSetIterable (.Call (.Name nmp p) (e :: es) [] pos') X.env v = pure v := by intro _; rfl) :
    PS X (.For (.Name x px) (.Call (.Name nmp p) (e :: es) [] pos') body [] pos) (tForP ix ta tb) := by
  refine ⟨fun pins s σ H D I h => ?_⟩
  refine wpAny_For ?_ hs
  refine wpAny_Call_Name_kw (ld_glob I hg hm ?_ hdb)
  refine PySem.W.callWith_K (h₀ := X.base) I.ok.mod.kin hk (thn (ha.run pos' pins s σ H _ I h) fun us s1 ⟨vs, H1, I1, r1, q1⟩ => ⟨I1.kIn, ?_⟩) he hpl
  obtain ⟨code, size, many, rfl, ok, Pv, h0, hturn, hdone⟩ := q1
  have hl2 : us.length = 3 := r1.length.symm
  have hbt : BindsTo s1 fd ⟨us, []⟩ (pP.zip us) := by
    have := hb s1 us I1.kIn (by rw [List.append_nil]; exact hl2)
    rw [List.append_nil] at this
    exact this
  refine wpAny_call (codeAny_mono (F ok (hr.mono (Nat.le_succ _)) I1.env0 hbt r1) fun r s2 hq => ?_)
  cases r with
  | error e => exact False.elim hq
  | ok fl =>
  cases fl with
  | next => exact False.elim hq
  | brk => exact False.elim hq
  | cont => exact False.elim hq
  | ret u =>
  obtain ⟨a, g, c, env, rfl, m⟩ := hq
  refine wpAny_pyIter_gen m.gen ?_
  have hh : X.A.handled = none := I.ok.hd hc
  have hsz : s1.heap.objs.size ≤ s2.heap.objs.size := by
    have h1 : @LE.le Nat _ s1.heap.objs.size env.locals := m.young
    have h2 : @LT.lt Nat _ env.locals a := m.La
    have h3 : @Eq Nat (a + 1) s2.heap.objs.size := m.aE
    omega
  have I2 : Inv X pins σ H1 s2 := I1.call' (ch := []) m.os (Un.kept m.keep) (I1.hok.kept m.keep) m.bare fun b z => by simp at z
  have hgl : g < s2.gens.size := (Array.getElem?_eq_some_iff.mp m.fresh).1
  have yg : ∀ it : Addr, a + 1 ≤ it → ∀ b ∈ [a, env.locals, it], ∀ H' : Hp, H' b = none → FpOk X pins H' b := fun it hit b hb' H' hn => by
    have h1 : @LE.le Nat _ s1.heap.objs.size env.locals := m.young
    have h2 : @LT.lt Nat _ env.locals a := m.La
    have h3 : @LE.le Nat _ (a + 1) it := hit
    refine I1.fpOk ?_ hn
    show @LE.le Nat _ s1.heap.objs.size b
    rcases List.mem_cons.mp hb' with z | z
    · have z : @Eq Nat b a := z
      omega
    · rcases List.mem_cons.mp z with z | z
      · have z : @Eq Nat b env.locals := z
        omega
      · have z : @Eq Nat b it := List.mem_singleton.mp z
        omega
  -- a slot is out: the turn
  have go : ∀ (i : Nat) (it : Addr) (σ5 : L2.St) (H5 : Hp) (s5 : Shared) (t : Tok), i < many.toNat → a + 1 ≤ it → Inv X pins σ5 H5 s5 → Pv i σ5 H5 → Asleep X X.A.in1 env a g many.toNat size code (a + 1) (i + 1) it H5 s5 →
      wpAny (model X.prog X.w) X.A (assign (.Name x px) X.env (.int (sl size code i) t)) (fun _ s6 => wpAny (model X.prog X.w) X.A (execs body X.env) (TurnP X pins env a g many.toNat size code (a + 1) it (i + 1) D (Pv (i + 1))) (fun _ _ => False) s6) (fun _ _ => False) s5 := fun i it σ5 H5 s5 t hlt hit I5 hP hA => by
    refine wpAny_mono (turn_body I5 hA (yg it hit) hN hi hx hf hbd (v := .int (sl size code i)) ⟨t, rfl⟩ (hturn i σ5 H5 hlt hP)) (fun _ s6 h6 => wpAny_mono h6 (fun f s7 h7 => ?_) fun _ _ z => z) fun _ _ z => z
    cases f <;> exact h7
  refine codeAny_forLoop_any (fun n s' => ∃ i σ' H', i ≤ many.toNat ∧ n = many.toNat - i ∧ Inv X pins σ' H' s' ∧ Pv i σ' H' ∧ Head X X.A.in1 s2 σ H1 env a g many.toNat size code (a + 1) i σ' H' s') ?_ many.toNat ⟨0, σ, H1, Nat.zero_le _, by omega, I2, h0, .begin⟩
  rintro n s3 ⟨i, σ3, H3, hle, rfl, I3, hP, hd⟩
  -- behind the turn's body
  have fin : ∀ {it : Addr} {f : Flow} {s7 : Shared}, i < many.toNat → TurnP X pins env a g many.toNat size code (a + 1) it (i + 1) D (Pv (i + 1)) f s7 →
      (match f with
        | .next | .cont => ∃ m, m < many.toNat - i ∧ ∃ i σ' H', i ≤ many.toNat ∧ m = many.toNat - i ∧ Inv X pins σ' H' s7 ∧ Pv i σ' H' ∧ Head X X.A.in1 s2 σ H1 env a g many.toNat size code (a + 1) i σ' H' s7
        | .brk => SP X pins D .next s7
        | .ret v => SP X pins D (.ret v) s7) := fun {it f s7} hlt q => by
    cases f with
    | next => obtain ⟨σ7, H7, J, n7, z⟩ := q; exact ⟨many.toNat - (i + 1), by omega, i + 1, σ7, H7, by omega, rfl, J, n7, .amid (Nat.succ_pos _) z⟩
    | cont => obtain ⟨σ7, H7, J, n7, z⟩ := q; exact ⟨many.toNat - (i + 1), by omega, i + 1, σ7, H7, by omega, rfl, J, n7, .amid (Nat.succ_pos _) z⟩
    | brk => obtain ⟨σ7, H7, J, n7⟩ := q; exact ⟨σ7, H7, J, n7⟩
    | ret u => obtain ⟨v7, σ7, H7, J, r7, n7⟩ := q; exact ⟨v7, σ7, H7, J, r7, n7⟩
  -- the turn, from where the slot is out
  have turn : ∀ {it : Addr} {s5 : Shared} {t : Tok} {σ5 : L2.St} {H5 : Hp} {Z : Flow → Shared → Prop} {E : Value → Shared → Prop}, i < many.toNat → a + 1 ≤ it → Inv X pins σ5 H5 s5 → Pv i σ5 H5 → Asleep X X.A.in1 env a g many.toNat size code (a + 1) (i + 1) it H5 s5 →
      (∀ f s7, TurnP X pins env a g many.toNat size code (a + 1) it (i + 1) D (Pv (i + 1)) f s7 → Z f s7) →
      wpAny (model X.prog X.w) X.A (letOwnedTupleGo (.Name x px) (.ref a) (.int (sl size code i) t)) (fun _ s₁' => wpAny (model X.prog X.w) X.A (assign (.Name x px) X.env (.int (sl size code i) t)) (fun _ s₂ => wpAny (model X.prog X.w) X.A (execs body X.env) Z E s₂) E s₁') E s5 := fun {it s5 t σ5 H5 Z E} hlt hit I5 hP5 hA hZ => by
    refine wpAny_pure ?_
    exact wpAny_mono (go i it σ5 H5 s5 t hlt hit I5 hP5 hA) (fun _ s6 h6 => wpAny_mono h6 (fun f s7 h7 => hZ f s7 h7) fun _ _ z => z.elim) fun _ _ z => z.elim
  cases hd with
  | begin =>
    refine wpAny_gsz (n := g + 1) hgl (next_first hh I2.nolimit hr.depth m.gen m.fresh (m.wake X.A.in1 (s2.setGen g .running) [] hr.in1 I2.ok.frames (fun _ _ e => e) m.os (allBare_setGen m.bare rfl) (fun p hp => by simp at hp)) fun e s₁ he => ?_)
    cases e with
    | ret r =>
      obtain ⟨rfl, hN0, ⟨j1, j2, j3, j4, j5, j6, _⟩⟩ := he
      refine .inl ⟨rfl, fun h' hk' _ => ?_⟩
      have I4 : Inv X pins σ H1 s₁ := I1.call' (ch := []) j1 j3 j4 j2 fun b z => by simp at z
      have I5 : Inv X pins σ H1 { s₁.setGen g .finished with heap := h' } := Inv.withG (I4.kept (t' := s₁.toks) hk') (allBare_setGen j2 rfl)
      refine wpAny_execs_nil ?_
      rw [hN0] at hdone
      exact ⟨σ, H1, I5, hdone σ H1 hP⟩
    | susp v gd l k₁ c₁ p₁ fs₁ =>
      obtain ⟨hq, hN0, ⟨t, rfl⟩, ⟨j1, j2, j3, j4, j5, j6, _⟩, it, hit', hst, hsl⟩ := he
      have hit : a + 1 ≤ it := Nat.succ_le_of_lt (hit' a List.mem_cons_self)
      refine .inr ⟨_, gd, l, k₁, c₁, p₁, fs₁, rfl, hq, fun hsz' => ?_⟩
      have I4 : Inv X pins σ H1 s₁ := I1.call' (ch := []) j1 j3 j4 j2 fun b z => by simp at z
      have hcl : (gd || fs₁.any Frame.guarded) = false := by
        have : (!(gd || fs₁.any Frame.guarded)) = true := hq
        simpa using this
      have hb' : (End.susp (Value.int (sl size code 0) t) gd l k₁ c₁ p₁ fs₁).genState.bare = true := End.bare_of_quiet hq
      have I5 : Inv X pins σ H1 (s₁.setGen g (End.susp (Value.int (sl size code 0) t) gd l k₁ c₁ p₁ fs₁).genState) := Inv.withG I4 (allBare_setGen j2 hb')
      have hgs1 : g < s₁.gens.size := by
        have q : (s₁.setGen g (End.susp (Value.int (sl size code 0) t) gd l k₁ c₁ p₁ fs₁).genState).gens.size = s₁.gens.size := setGen_size _ _ _
        have hsz'' : g + 1 ≤ (s₁.setGen g (End.susp (Value.int (sl size code 0) t) gd l k₁ c₁ p₁ fs₁).genState).gens.size := hsz'
        omega
      refine turn hN0 hit I5 hP ⟨hit, j5, hst, fun b hb' => ?_, k₁, l, c₁, p₁, fs₁, _, setGen_at hgs1, hcl, hsl⟩ fun f s7 q => ?_
      · have yy : @LE.le Nat _ s1.heap.objs.size b := by
          have h1 : @LE.le Nat _ s1.heap.objs.size env.locals := m.young
          have h2 : @LT.lt Nat _ env.locals a := m.La
          have h3 : @LE.le Nat _ (a + 1) it := hit
          rcases List.mem_cons.mp hb' with z | z
          · have z : @Eq Nat b a := z
            omega
          · rcases List.mem_cons.mp z with z | z
            · have z : @Eq Nat b env.locals := z
              omega
            · have z : @Eq Nat b it := List.mem_singleton.mp z
              omega
        exact I1.hok.fresh yy
      · have := fin hN0 q
        cases f <;> exact this
  | @amid _ it _ _ _ hpos hA =>
    obtain ⟨hlow, hgen, hst, hnT, ⟨k₁, l₁, c₁, p₁, fs₁, cl₁, hgs, hcl, hsl⟩⟩ := hA
    have hgl3 : g < s3.gens.size := (Array.getElem?_eq_some_iff.mp hgs).1
    have fL : FpOk X pins H3 env.locals := yg it hlow _ (by simp) H3 (hnT _ (by simp))
    have fI : FpOk X pins H3 it := yg it hlow _ (by simp) H3 (hnT _ (by simp))
    have haL : a ≠ env.locals := Nat.ne_of_gt m.La
    have haI : a ≠ it := Nat.ne_of_lt (Nat.lt_of_lt_of_le (Nat.lt_succ_self a) hlow)
    have I3' : Inv X pins σ3 H3 (s3.setGen g .running) := Inv.withG I3 (allBare_setGen I3.bare rfl)
    refine wpAny_gsz (n := g + 1) hgl3 (next_later (n := many.toNat - i) hh I3.nolimit hr.depth hgen hgs (hsl (s3.setGen g .running) fun _ _ _ e => e) (fun r s₁ hR => ?_) fun v gd l k₂ c₂ p₂ fs₂ s₁ hq hY => ?_)
    · obtain ⟨rfl, hn0, hj⟩ := hR
      unfold Jr at hj
      rw [if_neg (by omega)] at hj
      refine ⟨rfl, fun h' hk' _ => ?_⟩
      have I4 : Inv X pins σ3 H3 s₁ := inv_mv I3' hj fL fI
      have I5 : Inv X pins σ3 H3 { s₁.setGen g .finished with heap := h' } := Inv.withG (I4.kept (t' := s₁.toks) hk') (allBare_setGen I4.bare rfl)
      refine wpAny_execs_nil ?_
      have e : i = many.toNat := by omega
      rw [← e] at hdone
      exact ⟨σ3, H3, I5, hdone σ3 H3 hP⟩
    · obtain ⟨i', t, hi', rfl, hj, hy, hkap⟩ := hY
      intro hsz'
      obtain ⟨m', hm'⟩ : ∃ m', many.toNat - i = m' + 1 := by
        cases hz : many.toNat - i with
        | succ m' => exact ⟨m', rfl⟩
        | zero =>
          have := hkap s₁ fun _ _ _ e => e
          rw [hz] at this
          exact False.elim this
      have ei : i' = i := by omega
      subst ei
      have hlt : i' < many.toNat := by omega
      unfold Jr at hj
      rw [if_neg (by omega)] at hj
      have I4 : Inv X pins σ3 H3 s₁ := inv_mv I3' hj fL fI
      have hcl2 : (gd || fs₂.any Frame.guarded) = false := by
        have : (!(gd || fs₂.any Frame.guarded)) = true := hq
        simpa using this
      have hb' : (End.susp (Value.int (sl size code i') t) gd l k₂ c₂ p₂ fs₂).genState.bare = true := End.bare_of_quiet hq
      have I5 : Inv X pins σ3 H3 (s₁.setGen g (End.susp (Value.int (sl size code i') t) gd l k₂ c₂ p₂ fs₂).genState) := Inv.withG I4 (allBare_setGen I4.bare hb')
      have hgs1 : g < s₁.gens.size := by
        have q : (s₁.setGen g (End.susp (Value.int (sl size code i') t) gd l k₂ c₂ p₂ fs₂).genState).gens.size = s₁.gens.size := setGen_size _ _ _
        have hsz'' : g + 1 ≤ (s₁.setGen g (End.susp (Value.int (sl size code i') t) gd l k₂ c₂ p₂ fs₂).genState).gens.size := hsz'
        omega
      have hgen1 : s₁.heap.IsGen a g := by
        obtain ⟨h', tk, rfl, k'⟩ := hj
        obtain ⟨o, n1, n2, ho, z⟩ := hgen
        exact ⟨o, n1, n2, k' _ o haL haI ho, z⟩
      refine turn hlt hlow I5 hP ⟨hlow, hgen1, hy, hnT, k₂, l, c₂, p₂, fs₂, _, setGen_at hgs1, hcl2, fun s'' z => ?_⟩ fun f s7 q => ?_
      · have := hkap s'' z
        rw [hm'] at this
        rw [show many.toNat - (i' + 1) = m' by omega]
        exact this
      · have := fin hlt q
        cases f <;> exact this
end
end Pth
set_option Elab.async false
set_option linter.all false
set_option maxRecDepth 100000
set_option maxHeartbeats 1000000
/-! Pl: list(path(..)) -/
namespace Pth
open PySem PySem.Spec PyProof.Rows L2 GenW
section
variable {X : Cx} {pins : List (Addr × Obj)} {σ : L2.St} {H : Hp} {s : Shared}
/-- an object of ours is tracked from now on -/
theorem inv_track {S : Addr} {o : HO} (I : Inv X pins σ H s) (f : FpOk X pins H S) (hs : ∃ u, s.heap.get? S = some u) (new : ObjOk X.prog X.w (upd H S o) s.heap S o) : Inv X pins σ (upd H S o) s := by
  obtain ⟨a0, a1, a2, a3, a4, a5⟩ := f
  have ne : ∀ b, b ∉ [S] → b ≠ S := fun b hb z => hb (by rw [z]; simp)
  have nt : ∀ b u, H b = some u → b ≠ S := fun b u e => ne_of_none e a0
  obtain ⟨hp, g, d, t, os⟩ := s
  refine I.step (g' := g) (d' := d) (t' := t) (h' := hp) (ch := [S]) (fun b hb => ?_) (fun b o _ _ _ e _ => e) (fun b o _ _ _ e _ => ⟨o.slots, e⟩) (fun b _ hc _ n => by rw [upd_ne (ne b hc)]; exact n)
    (fun b o _ e => ⟨o, e⟩) (fun b _ e => by rw [upd_ne (nt b _ e)]; exact e) (fun b _ _ e => by rw [upd_ne (nt b _ e)]; exact e) (fun b ps e => ⟨#[], by rw [upd_ne (nt b _ e), e]; simp⟩) (fun m hm => hm) (fun b u e => ?_) I.bare
  · rw [List.mem_singleton.mp hb]; exact ⟨a3, a1, a4, a5⟩
  · by_cases hb : b = S
    · rw [hb, upd_same] at e
      cases e
      rw [hb]
      exact new
    · rw [upd_ne hb] at e
      exact (I.hok b u e).stay (fun _ _ _ q => q) (fun c q => by rw [upd_ne (nt c _ q)]; exact q) fun c xs q => by rw [upd_ne (nt c _ q)]; exact q
/-- the slots, a list -/
def slots (size code many : Int) : List V := (List.range many.toNat).map fun i => V.int (sl size code i)
def tListP (ta : TA) : TE := fun σ H Q => ta σ H fun vs H1 => ∃ code size many : Int, vs = [.int code, .int size, .int many] ∧ POk code size many ∧ many.toNat ≤ sizeLine ∧ ∀ p, H1 p = none → Q (.ref p) (upd H1 p (.lst (slots size code many)))
/-- the list stands at S: i slots are in it -/
def InList (S : Addr) (size code : Int) (i : Nat) (s : Shared) : Prop := ∃ (acc : Array Value) (c : Nat), Vals ((List.range i).map fun i => V.int (sl size code i)) acc.toList ∧ s.heap.get? S = some (lstObj acc c)
theorem vals_snoc {size code : Int} {i : Nat} {acc : Array Value} {t : Tok} (h : Vals ((List.range i).map fun i => V.int (sl size code i)) acc.toList) : Vals ((List.range (i + 1)).map fun i => V.int (sl size code i)) (acc.push (.int (sl size code i) t)).toList := by
  rw [List.range_succ, List.map_append, Array.toList_push]
  exact h.append (.cons ⟨t, rfl⟩ .nil)
/-- the loop that fills the list, i slots being in it -/
theorem drainP {A : Around} {env : Env} {a g : Nat} {size code many : Int} {S it : Addr} {R : Result → Shared → Prop} {res : Value} (hh : A.handled = none) (hd : A.depth < recursionLimit) (hle : many.toNat ≤ sizeLine) (hL : env.locals ≠ S) (hI : it ≠ S) (haS : a ≠ S) (haL : a ≠ env.locals) (haI : a ≠ it) (hGS : mainGlobals ≠ S)
    (fS : FpOk X pins H S) (fL : FpOk X pins H env.locals) (fI : FpOk X pins H it)
    (hend : ∀ s', Inv X pins σ H s' → InList S size code many.toNat s' → R (.ok (.ret res)) s') :
    ∀ (r i : Nat) (s : Shared), 0 < i → i + r = many.toNat → Inv X pins σ H s → InList S size code i s → Asleep X A.in1.in1 env a g many.toNat size code 0 i it H s →
      codeAny (model X.prog X.w) A (.builtin "list.extend.loop" ⟨[.ref S, .ref a, res], []⟩) R s := by
  intro r
  induction r with
  | zero =>
    intro i s hpos hir I hin hA
    obtain ⟨hlow, hgen, hst, hnT, ⟨k₁, l₁, c₁, p₁, fs₁, cl₁, hgs, hcl, hsl⟩⟩ := hA
    have I' : Inv X pins σ H (s.setGen g .running) := Inv.withG I (allBare_setGen I.bare rfl)
    refine codeAny_builtin F.entry_extend_loop ?_
    rw [Around.under_plainId F.plain_extend_loop _]
    show wpAny _ A.in1 (pyNext (.ref a) >>= _) _ _ s
    refine wpAny_bind (next_later (A := A.in1) (n := many.toNat - i) hh I.nolimit hd hgen hgs (hsl (s.setGen g .running) fun _ _ _ e => e) (fun r s₁ hR => ?_) fun v gd l k₂ c₂ p₂ fs₂ s₁ hq hY => ?_)
    · obtain ⟨rfl, hn0, hj⟩ := hR
      unfold Jr at hj
      rw [if_neg (by omega)] at hj
      refine ⟨rfl, fun h' hk' => ?_⟩
      have I4 : Inv X pins σ H s₁ := inv_mv I' hj fL fI
      have I5 : Inv X pins σ H { s₁.setGen g .finished with heap := h' } := Inv.withG (I4.kept (t' := s₁.toks) hk') (allBare_setGen I4.bare rfl)
      refine wpAny_pure (hend _ I5 ?_)
      obtain ⟨acc, c, hv, hS⟩ := hin
      obtain ⟨h2, tk, rfl, k2⟩ := hj
      refine ⟨acc, c, ?_, hk' _ _ (k2 _ _ (Ne.symm hL) (Ne.symm hI) hS)⟩
      have e : many.toNat = i := by omega
      rw [e]; exact hv
    · obtain ⟨i', t, hi', rfl, hj, hy, hkap⟩ := hY
      have := hkap s₁ fun _ _ _ e => e
      rw [show many.toNat - i = 0 by omega] at this
      exact False.elim this
  | succ r ih =>
    intro i s hpos hir I hin hA
    obtain ⟨hlow, hgen, hst, hnT, ⟨k₁, l₁, c₁, p₁, fs₁, cl₁, hgs, hcl, hsl⟩⟩ := hA
    have hgl : g < s.gens.size := (Array.getElem?_eq_some_iff.mp hgs).1
    have I' : Inv X pins σ H (s.setGen g .running) := Inv.withG I (allBare_setGen I.bare rfl)
    refine codeAny_builtin F.entry_extend_loop ?_
    rw [Around.under_plainId F.plain_extend_loop _]
    show wpAny _ A.in1 (pyNext (.ref a) >>= _) _ _ s
    refine wpAny_bind (wpAny_gsz (n := g + 1) hgl (next_later (A := A.in1) (n := many.toNat - i) hh I.nolimit hd hgen hgs (hsl (s.setGen g .running) fun _ _ _ e => e) (fun r s₁ hR => ?_) fun v gd l k₂ c₂ p₂ fs₂ s₁ hq hY => ?_))
    · obtain ⟨rfl, hn0, hj⟩ := hR
      omega
    · obtain ⟨i', t, hi', rfl, hj, hy, hkap⟩ := hY
      intro hsz'
      have ei : i' = i := by omega
      subst ei
      unfold Jr at hj
      rw [if_neg (by omega)] at hj
      have I4 : Inv X pins σ H s₁ := inv_mv I' hj fL fI
      have hcl2 : (gd || fs₂.any Frame.guarded) = false := by
        have : (!(gd || fs₂.any Frame.guarded)) = true := hq
        simpa using this
      have hb' : (End.susp (Value.int (sl size code i') t) gd l k₂ c₂ p₂ fs₂).genState.bare = true := End.bare_of_quiet hq
      have I5 : Inv X pins σ H (s₁.setGen g (End.susp (Value.int (sl size code i') t) gd l k₂ c₂ p₂ fs₂).genState) := Inv.withG I4 (allBare_setGen I4.bare hb')
      have hgs1 : g < s₁.gens.size := by
        have q : (s₁.setGen g (End.susp (Value.int (sl size code i') t) gd l k₂ c₂ p₂ fs₂).genState).gens.size = s₁.gens.size := setGen_size _ _ _
        have hsz'' : g + 1 ≤ (s₁.setGen g (End.susp (Value.int (sl size code i') t) gd l k₂ c₂ p₂ fs₂).genState).gens.size := hsz'
        omega
      obtain ⟨h2, tk, rfl, k2⟩ := hj
      obtain ⟨acc, c, hv, hS⟩ := hin
      have hS1 : h2.get? S = some (lstObj acc c) := k2 _ _ (Ne.symm hL) (Ne.symm hI) hS
      have hal : acc.size = i' := by
        have := hv.length
        simpa using this.symm
      show wpAny _ A.in1 (updateSeq S (·.push (.int (sl size code i') t)) >>= _) _ _ _
      refine wpAny_bind ?_
      refine wpAny_updateSeq hS1 rfl (wpAny_pure ⟨plainId_quiet F.plain_extend_loop _, ?_⟩) (by omega) (by show (acc.push _).size ≤ sizeLine + 1; rw [Array.size_push]; omega)
      have keep3 : ∀ b o, b ≠ S → h2.get? b = some o → (h2.update S (Obj.mapSeq (·.push (.int (sl size code i') t)))).get? b = some o := fun b o hbS e => (Heap.get?_update_other _ _ (Ne.symm hbS)).trans e
      obtain ⟨s0, s1', s2, s3, s4, s5⟩ := fS
      refine ih (i' + 1) _ (by omega) (by omega) (I5.turned (it := S) (t' := tk) keep3 s0 s1' s3 s4 s5) ⟨_, _, vals_snoc hv, Heap.get?_update_self _ hS1 rfl⟩ ⟨Nat.zero_le _, ?_, ?_, hnT, k₂, l, c₂, p₂, fs₂, _, setGen_at hgs1, hcl2, fun s'' z => ?_⟩
      · obtain ⟨o, n1, n2, ho, z⟩ := hgen
        exact ⟨o, n1, n2, keep3 _ o haS (k2 _ o haL haI ho), z⟩
      · refine hy.keeps (s' := { heap := h2.update S (Obj.mapSeq (·.push (.int (sl size code i') t))), gens := s.gens, drawn := s.drawn, toks := tk, os := s.os }) fun b o hb e => ?_
        refine keep3 b o ?_ e
        rcases hb with e | e | e <;> rw [e] <;> first | exact hL | exact hI | exact hGS
      · have := hkap s'' fun b o hb e => z b o hb ?_
        · rw [show many.toNat - i' = r + 1 by omega] at this
          rw [show many.toNat - (i' + 1) = r by omega]
          exact this
        · refine keep3 b o ?_ e
          rcases hb with e | e | e <;> rw [e] <;> first | exact hL | exact hI | exact hGS

theorem drain0 {A : Around} {env : Env} {k a g : Nat} {c : Code} {size code many : Int} {S : Addr} {R : Result → Shared → Prop} {res : Value} {H1 : Hp} {s1 s2 : Shared} {cc : Nat} (hh : A.handled = none) (hd : A.depth < recursionLimit) (hle : many.toNat ≤ sizeLine)
    (I1 : Inv X pins σ H1 s1) (m : PMade X.prog X.w k X.stack H1 s1 many.toNat size code a g c env s2) (hr : Room k A.in1.in1) (hfr : A.in1.in1.frames = some X.stack) (hk : ∀ b o, s2.heap.get? b = some o → s.heap.get? b = some o) (hg : s.gens = s2.gens) (ho : s.os = s2.os)
    (hS : s.heap.get? S = some (lstObj #[] cc)) (haS : a < S)
    (hend : ∀ s', Inv X pins σ H1 s' → InList S size code many.toNat s' → R (.ok (.ret res)) s') :
    codeAny (model X.prog X.w) A (.builtin "list.extend.loop" ⟨[.ref S, .ref a, res], []⟩) R s := by
  have y1 : @LE.le Nat _ s1.heap.objs.size env.locals := m.young
  have y2 : @LT.lt Nat _ env.locals a := m.La
  have y3 : @LT.lt Nat _ a S := haS
  have yng : ∀ b : Addr, @LE.le Nat _ env.locals b → ∀ {H' : Hp}, H' b = none → FpOk X pins H' b := fun b hb H' hn => I1.fpOk (show @LE.le Nat _ s1.heap.objs.size b by omega) hn
  have ynn : ∀ b : Addr, @LE.le Nat _ env.locals b → H1 b = none := fun b hb => I1.hok.fresh (show @LE.le Nat _ s1.heap.objs.size b by omega)
  have hmG : @LT.lt Nat _ mainGlobals S := by
    obtain ⟨o, es, ep, ho, _⟩ := I1.mod.glob
    have := Heap.lt_size (I1.bk _ _ ho)
    have : @LT.lt Nat _ mainGlobals s1.heap.objs.size := this
    omega
  have hL : env.locals ≠ S := Nat.ne_of_lt (show @LT.lt Nat _ env.locals S by omega)
  have hgen : s.heap.IsGen a g := m.gen.keeps hk
  have hlim : s.heap.NoLimit := m.lim.keeps hk
  have hgs : s.gens[g]? = some (.fresh c) := by rw [hg]; exact m.fresh
  have hgl : g < s.gens.size := (Array.getElem?_eq_some_iff.mp hgs).1
  have hbare : AllBare s.gens := by rw [hg]; exact m.bare
  have fS : FpOk X pins H1 S := yng S (by omega) (ynn S (by omega))
  have fL : FpOk X pins H1 env.locals := yng _ (Nat.le_refl _) (ynn _ (Nat.le_refl _))
  refine codeAny_builtin F.entry_extend_loop ?_
  rw [Around.under_plainId F.plain_extend_loop _]
  show wpAny _ A.in1 (pyNext (.ref a) >>= _) _ _ s
  refine wpAny_bind (wpAny_gsz (n := g + 1) hgl (next_first (A := A.in1) hh hlim hd hgen hgs (m.wake A.in1.in1 (s.setGen g .running) [(S, lstObj #[] cc)] hr hfr (fun b o e => hk b o e) (ho.trans m.os) (allBare_setGen hbare rfl) (fun p hp => by
    rw [List.mem_singleton.mp hp]
    exact ⟨hS, haS, fun v z => by cases z⟩)) fun e s₁ he => ?_))
  cases e with
  | ret r =>
    obtain ⟨rfl, hN0, ⟨j1, j2, j3, j4, j5, j6, j7⟩⟩ := he
    refine .inl ⟨rfl, fun h' hk' _ => ?_⟩
    have I4 : Inv X pins σ H1 s₁ := I1.call' (ch := []) j1 j3 j4 j2 fun b z => by simp at z
    have I5 : Inv X pins σ H1 { s₁.setGen g .finished with heap := h' } := Inv.withG (I4.kept (t' := s₁.toks) hk') (allBare_setGen j2 rfl)
    refine wpAny_pure (hend _ I5 ⟨#[], cc, ?_, hk' _ _ (j7 (S, lstObj #[] cc) (List.mem_singleton.mpr rfl))⟩)
    rw [hN0]
    exact .nil
  | susp v gd l k₁ c₁ p₁ fs₁ =>
    obtain ⟨hq, hN0, ⟨t, rfl⟩, ⟨j1, j2, j3, j4, j5, j6, j7⟩, it, hit', hst, hsl⟩ := he
    refine .inr ⟨_, gd, l, k₁, c₁, p₁, fs₁, rfl, hq, fun hsz' => ?_⟩
    have hai : @LT.lt Nat _ a it := hit' a List.mem_cons_self
    have hSi : @LT.lt Nat _ S it := hit' S (by simp)
    have I4 : Inv X pins σ H1 s₁ := I1.call' (ch := []) j1 j3 j4 j2 fun b z => by simp at z
    have hcl2 : (gd || fs₁.any Frame.guarded) = false := by
      have : (!(gd || fs₁.any Frame.guarded)) = true := hq
      simpa using this
    have hb' : (End.susp (Value.int (sl size code 0) t) gd l k₁ c₁ p₁ fs₁).genState.bare = true := End.bare_of_quiet hq
    have I5 : Inv X pins σ H1 (s₁.setGen g (End.susp (Value.int (sl size code 0) t) gd l k₁ c₁ p₁ fs₁).genState) := Inv.withG I4 (allBare_setGen j2 hb')
    have hgs1 : g < s₁.gens.size := by
      have q : (s₁.setGen g (End.susp (Value.int (sl size code 0) t) gd l k₁ c₁ p₁ fs₁).genState).gens.size = s₁.gens.size := setGen_size _ _ _
      have hsz'' : g + 1 ≤ (s₁.setGen g (End.susp (Value.int (sl size code 0) t) gd l k₁ c₁ p₁ fs₁).genState).gens.size := hsz'
      omega
    have fI : FpOk X pins H1 it := yng it (by omega) (ynn it (by omega))
    have hS1 : s₁.heap.get? S = some (lstObj #[] cc) := j7 (S, lstObj #[] cc) (List.mem_singleton.mpr rfl)
    have haS' : a ≠ S := Nat.ne_of_lt y3
    have haL : a ≠ env.locals := Nat.ne_of_gt y2
    have haI : a ≠ it := Nat.ne_of_lt hai
    have hI : it ≠ S := Nat.ne_of_gt hSi
    have hGS : mainGlobals ≠ S := Nat.ne_of_lt hmG
    obtain ⟨hp1, g1, d1, t1, o1⟩ := s₁
    have hS1 : hp1.get? S = some (lstObj #[] cc) := hS1
    show wpAny _ A.in1 (updateSeq S (·.push (.int (sl size code 0) t)) >>= _) _ _ _
    refine wpAny_bind ?_
    refine wpAny_updateSeq hS1 rfl (wpAny_pure ⟨plainId_quiet F.plain_extend_loop _, ?_⟩) (by show (0 : Nat) ≤ sizeLine; exact Nat.zero_le _) (by show (1 : Nat) ≤ sizeLine + 1; omega)
    have keep3 : ∀ b o, b ≠ S → hp1.get? b = some o → (hp1.update S (Obj.mapSeq (·.push (.int (sl size code 0) t)))).get? b = some o := fun b o hbS e => (Heap.get?_update_other _ _ (Ne.symm hbS)).trans e
    obtain ⟨s0', s1', s2', s3', s4', s5'⟩ := id fS
    refine drainP (A := A) hh hd hle hL hI haS' haL haI hGS fS fL fI hend (many.toNat - 1) 1 _ (by omega) (by omega) (I5.turned (it := S) (t' := t1) keep3 s0' s1' s3' s4' s5') ⟨_, _, vals_snoc (i := 0) (acc := #[]) .nil, Heap.get?_update_self _ hS1 rfl⟩ ⟨Nat.zero_le _, ?_, ?_, fun b hb => ?_, k₁, l, c₁, p₁, fs₁, _, setGen_at hgs1, hcl2, fun s'' z => ?_⟩
    · obtain ⟨o, n1, n2, ho, z⟩ := j5
      exact ⟨o, n1, n2, keep3 _ o haS' ho, z⟩
    · refine hst.keeps (s' := { heap := hp1.update S (Obj.mapSeq (·.push (.int (sl size code 0) t))), gens := g1, drawn := d1, toks := t1, os := o1 }) fun b o hb e => ?_
      refine keep3 b o ?_ e
      rcases hb with e | e | e <;> rw [e] <;> first | exact hL | exact hI | exact hGS
    · refine ynn b ?_
      rcases List.mem_cons.mp hb with z | z
      · have z : @Eq Nat b a := z
        omega
      · rcases List.mem_cons.mp z with z | z
        · have z : @Eq Nat b env.locals := z
          omega
        · have z : @Eq Nat b it := List.mem_singleton.mp z
          omega
    · refine hsl s'' fun b o hb e => z b o hb (keep3 b o ?_ e)
      rcases hb with e | e | e <;> rw [e] <;> first | exact hL | exact hI | exact hGS

theorem inList_lst {P : Program} {w : World} {H' : Hp} {S : Addr} {size code many : Int} {s : Shared} (h : InList S size code many.toNat s) (hle : many.toNat ≤ sizeLine) : ObjOk P w H' s.heap S (.lst (slots size code many)) := by
  obtain ⟨acc, c, hv, hS⟩ := h
  refine ⟨?_, acc.toList, c, hv, hS⟩
  unfold slots
  rw [List.length_map, List.length_range]
  exact hle
theorem call_listP {A : Around} {env : Env} {k a g : Nat} {c : Code} {size code many : Int} {H1 : Hp} {s1 s2 : Shared} {Q : VK} {E : Value → Shared → Prop} (hA : A = X.A) (hle : many.toNat ≤ sizeLine) (hr : Room (k + 3) A) (I1 : Inv X pins σ H1 s1) (m : PMade X.prog X.w k X.stack H1 s1 many.toNat size code a g c env s2)
    (hQ : ∀ p, H1 p = none → Q (.ref p) (upd H1 p (.lst (slots size code many)))) :
    wpAny (model X.prog X.w) A (call (.type "list") [.ref a]) (EP X pins σ Q) E s2 := by
  have y1 : @LE.le Nat _ s1.heap.objs.size env.locals := m.young
  have y2 : @LT.lt Nat _ env.locals a := m.La
  have y3 : @Eq Nat (a + 1) s2.heap.objs.size := m.aE
  have hSa : s2.heap.objs.size ≠ a := Nat.ne_of_gt (show @LT.lt Nat _ a s2.heap.objs.size by omega)
  refine callType_codes (Q₁ := fun obj s₁ => obj = .ref s2.heap.objs.size ∧ s₁ = { s2 with heap := s2.heap.push { cls := .type "list", data := .seq #[] } }) F.called_list (F.typeCall_list_1 _) F.entry_list_init
    (code_list_new _ ⟨rfl, rfl⟩) fun obj s₁ h₁ => ?_
  obtain ⟨rfl, rfl⟩ := h₁
  have hS : (s2.heap.push { cls := .type "list", data := .seq #[] }).get? s2.heap.objs.size = some { cls := .type "list", data := .seq #[] } := Heap.get?_push_size _ rfl
  refine ⟨⟨_, hS, rfl⟩, F.args_list_init_2 _ _, ?_⟩
  show wpAny _ A.in1.in1 (do let old ← Builtin.List.listItems (.ref s2.heap.objs.size); Builtin.List.listUpdate (.ref s2.heap.objs.size) (fun _ => #[]); letGo old.toList.reverse; Builtin.List.listExtendWith (.ref s2.heap.objs.size) (.ref a) .none) _ _ _
  refine wpAny_bind ?_
  unfold Builtin.List.listItems
  refine wpAny_bind (wpAny_seqItems hS rfl (wpAny_pure ?_))
  show wpAny _ A.in1.in1 (updateSeq s2.heap.objs.size (fun _ => #[]) >>= fun _ => letGo (#[] : Array Value).toList.reverse >>= fun _ => Builtin.List.listExtendWith (.ref s2.heap.objs.size) (.ref a) .none) _ _ _
  refine wpAny_bind (wpAny_updateSeq hS rfl ?_)
  have hS2 := Heap.get?_update_self (Obj.mapSeq (fun _ => (#[] : Array Value))) hS rfl
  refine wpAny_bind (wpAny_letGo ?_)
  unfold Builtin.List.listExtendWith
  have up : ∀ (h : Heap) (f : Obj → Obj), (∀ b o, s2.heap.get? b = some o → h.get? b = some o) → ∀ b o, s2.heap.get? b = some o → (h.update s2.heap.objs.size f).get? b = some o := fun h f q b o e =>
    (Heap.get?_update_other _ _ (Ne.symm (Nat.ne_of_lt (Heap.lt_size e)))).trans (q b o e)
  have k1 : ∀ b o, s2.heap.get? b = some o → (s2.heap.push { cls := .type "list", data := .seq #[] }).get? b = some o := fun b o e => Heap.get?_push_of_some _ e
  have k2 := up _ (Obj.mapSeq (fun _ => (#[] : Array Value))) k1
  have gty : ∀ {h : Heap}, (∀ b o, s2.heap.get? b = some o → h.get? b = some o) → h.IsGen a g := fun {h} q => m.gen.keeps q
  refine wpAny_bind (wpAny_typeOf (Heap.IsGen.typeIs (s := { s2 with heap := _ }) (gty k2)) ?_)
  have h1 : Builtin.List.listSameRef (.ref s2.heap.objs.size) (.ref a) = false := by simp [Builtin.List.listSameRef, hSa]
  have h2 : (Value.type "generator" == Value.type "list") = false := by decide
  have h3 : (Value.type "generator" == Value.type "tuple") = false := by decide
  simp only [h1, h2, h3, Bool.or_false, Bool.false_eq_true, if_false]
  refine wpAny_bind (wpAny_pyIter_gen (s := { s2 with heap := _ }) (gty k2) ?_)
  refine wpAny_bind (wpAny_holding ?_)
  unfold Builtin.List.listLengthHint
  refine wpAny_bind (wpAny_specialOf (Heap.IsGen.typeIs (s := { s2 with heap := _ }) (gty k2)) F.gen_no_len ?_)
  show wpAny _ A.in1.in1 (specialOf (Value.ref a) (Str.ofString "__length_hint__") >>= _) _ _ _
  refine wpAny_bind (wpAny_specialOf (Heap.IsGen.typeIs (s := { s2 with heap := _ }) (gty k2)) F.gen_no_hint ?_)
  refine wpAny_pure ?_
  show wpAny _ A.in1.in1 (rule "list.extend.makes-room" >>= fun _ => Builtin.List.listTouch (.ref s2.heap.objs.size) >>= fun _ =>
    again (.builtin "list.extend.loop" ⟨[.ref s2.heap.objs.size, .ref a, .none], []⟩)) _ _ _
  refine wpAny_bind (wpAny_rule ?_)
  refine wpAny_bind ?_
  show wpAny _ A.in1.in1 (updateSeq s2.heap.objs.size (·.push .none) >>= fun _ => updateSeq s2.heap.objs.size (·.pop)) _ _ _
  refine wpAny_bind (wpAny_updateSeq hS2 rfl ?_)
  have hS3 := Heap.get?_update_self (Obj.mapSeq (·.push Value.none)) hS2 rfl
  refine wpAny_updateSeq (hz := by seq_fits) hS3 rfl ?_
  have hS4 := Heap.get?_update_self (Obj.mapSeq (·.pop)) hS3 rfl
  have k4 := up _ (Obj.mapSeq (·.pop)) (up _ (Obj.mapSeq (·.push Value.none)) k2)
  refine wpAny_pure ⟨plainId_quiet F.plain_extend_loop _, ?_⟩
  refine drain0 (A := A.in1) hr.hd (by have := hr.dp; show A.depth < _; omega) hle I1 m ⟨hr.hd, ?_, ?_⟩ (by rw [hA]; exact I1.ok.frames) k4 rfl rfl hS4 (show @LT.lt Nat _ a s2.heap.objs.size by omega) fun s' I' hin => ⟨rfl, ?_⟩
  · have := hr.dp
    show A.depth + 3 * k + 5 < _
    omega
  · have := hr.un
    show A.units + 1 + 1 + 1 + 16 * k + 200 < _
    omega
  · have hn : H1 s2.heap.objs.size = none := I1.hok.fresh (show @LE.le Nat _ s1.heap.objs.size s2.heap.objs.size by omega)
    have fS : FpOk X pins H1 s2.heap.objs.size := I1.fpOk (show @LE.le Nat _ s1.heap.objs.size s2.heap.objs.size by omega) hn
    have hob : ∃ u, s'.heap.get? s2.heap.objs.size = some u := by
      obtain ⟨acc, c, _, h⟩ := hin
      exact ⟨_, h⟩
    exact ⟨.ref s2.heap.objs.size, _, inv_track I' fS hob (inList_lst hin hle), rfl, hQ _ hn⟩
/-- list(path(..)) -/
theorem pe_listP {f : Addr} {fd : FuncData} {k : Nat} {nmp nml : Str} {p p1 pos' pos : Pos} {e : Expr} {es : List Expr} {ta : TA}
    (F : PathDef X.prog X.w X.K X.mg X.base k f fd) (hr : Room (k + 3) X.A) (hg : Gl X nmp) (hm : X.mg nmp = some (.ref f)) (hk : PySem.W.keepIn X.K (.ref f) = true) (hb : Binds X.K fd pP []) (ha : PA X (e :: es) ta)
    (hgl : Gl X nml) (hmg : X.mg nml = none) (hv : bootBuiltins nml = some (.type "list")) (hnm : nml ≠ "__name__" := by decide) (hdl : (nml == ("__debug__" : Str)) = false := by decide)
    (hdb : (nmp == ("__debug__" : Str)) = false := by decide) (he : starEach (e :: es) X.env = (false, eval e X.env) :: starEach es X.env := by rfl) (hpl : (backTo pos' (starEach es X.env)).any (·.1) = false := by rfl)
    (he1 : starEach [.Call (.Name nmp p1) (e :: es) [] pos'] X.env = (false, eval (.Call (.Name nmp p1) (e :: es) [] pos') X.env) :: starEach [] X.env := by rfl) :
    PE X (.Call (.Name nml p) [.Call (.Name nmp p1) (e :: es) [] pos'] [] pos) (tListP ta) := by
  refine ⟨fun pins s σ H Q I h => ?_⟩
  refine wpAny_Call_Name_kw (ld_blt I hgl hmg hv ?_ hnm hdl)
  refine PyProof.Rows.callWith_type1 ?_ he1 rfl
  rw [he1]
  show wpAny _ _ (spliced ((false, eval (.Call (.Name nmp p1) (e :: es) [] pos') X.env) :: backTo pos (starEach [] X.env))) _ _ s
  refine Calls.spliced_cons ?_
  refine wpAny_Call_Name_kw (ld_glob I hg hm ?_ hdb)
  refine PySem.W.callWith_K (h₀ := X.base) I.ok.mod.kin hk (thn (ha.run pos' pins s σ H _ I h) fun us s1 ⟨vs, H1, I1, r1, q1⟩ => ⟨I1.kIn, ?_⟩) he hpl
  obtain ⟨code, size, many, rfl, ok, hle, hq⟩ := q1
  have hl2 : us.length = 3 := r1.length.symm
  have hbt : BindsTo s1 fd ⟨us, []⟩ (pP.zip us) := by
    have := hb s1 us I1.kIn (by rw [List.append_nil]; exact hl2)
    rw [List.append_nil] at this
    exact this
  refine wpAny_call (codeAny_mono (F ok (hr.mono (by omega)) I1.env0 hbt r1) fun r s2 hq' => ?_)
  cases r with
  | error e => exact False.elim hq'
  | ok fl =>
  cases fl with
  | next => exact False.elim hq'
  | brk => exact False.elim hq'
  | cont => exact False.elim hq'
  | ret u =>
  obtain ⟨a, g, c, env, rfl, m⟩ := hq'
  refine Calls.spliced_nil ?_
  exact call_listP rfl hle hr I1 m hq
end
end Pth
/-! mathematics of the paths -/
namespace K12
/-- the first slots of a path: slot, push, how many -/
def pathN (size : Nat) : Nat → Nat → Nat → List Nat
  | _, _, 0 => []
  | slot, push, n + 1 => slot :: pathN size ((5 * slot + push / 32 + 1) % size) (push / 32) n
def first (code size many : Nat) : List Nat := pathN size (code % size) code many

theorem pathN_len (size : Nat) : ∀ (n slot push : Nat), (pathN size slot push n).length = n
  | 0, _, _ => rfl
  | n + 1, _, _ => by simp [pathN, pathN_len size n]
theorem pathN_lt {size : Nat} (h : 0 < size) : ∀ (n slot push : Nat), slot < size → ∀ x ∈ pathN size slot push n, x < size
  | 0, _, _, _, x, hx => by simp [pathN] at hx
  | n + 1, slot, push, hs, x, hx => by
    simp only [pathN, List.mem_cons] at hx
    rcases hx with rfl | hx
    · exact hs
    · exact pathN_lt h n _ _ (Nat.mod_lt _ h) x hx

/-- half the size -/
theorem pathN_half {half : Nat} (_h : 0 < half) : ∀ (n slot push s2 : Nat), s2 = slot % half → pathN half s2 push n = (pathN (2 * half) slot push n).map (· % half)
  | 0, _, _, _, _ => rfl
  | n + 1, slot, push, s2, e => by
    simp only [pathN, List.map_cons]
    rw [e]
    congr 1
    refine pathN_half _h n _ _ _ ?_
    rw [Nat.mod_mul_left_mod]
    simp [Nat.add_mod, Nat.mul_mod]
theorem first_half {half code n : Nat} (h : 0 < half) : first code half n = (first code (2 * half) n).map (· % half) := by
  refine pathN_half h n _ _ _ ?_
  rw [Nat.mod_mul_left_mod]

/-- the slots as a function -/
def slotAt (size code : Nat) : Nat → Nat
  | 0 => code % size
  | i + 1 => (5 * slotAt size code i + code / 32 ^ (i + 1) + 1) % size
theorem pathN_get (size code : Nat) : ∀ (n i : Nat), pathN size (slotAt size code i) (code / 32 ^ i) n = (List.range' i n).map (slotAt size code)
  | 0, i => rfl
  | n + 1, i => by
    simp only [pathN, List.range'_succ, List.map_cons]
    congr 1
    rw [← pathN_get size code n (i + 1)]
    rw [Nat.div_div_eq_div_mul, ← Nat.pow_succ]
    rfl
theorem first_eq (code size n : Nat) : first code size n = (List.range n).map (slotAt size code) := by
  have h := pathN_get size code n 0
  simp only [Nat.pow_zero, Nat.div_one] at h
  rw [List.range_eq_range']
  exact h

/-- behind the sixth step the pushes are 0 -/
theorem push_zero {code i : Nat} (h : code < 4294967296) (hi : 7 ≤ i) : code / 32 ^ i = 0 := by
  apply Nat.div_eq_of_lt
  refine Nat.lt_of_lt_of_le h ?_
  refine Nat.le_trans (show 4294967296 ≤ 32 ^ 7 by decide) ?_
  exact Nat.pow_le_pow_right (by decide) hi

/-! the cycle x -> 5 x + 1 modulo a power of two -/
theorem five_odd_pow (e : Nat) : 5 ^ e % 4 = 1 := by
  induction e with
  | zero => rfl
  | succ e ih => rw [Nat.pow_succ]; omega
/-- the order of 5 modulo 2 ^ (m + 2) is 2 ^ m -/
theorem order5 : ∀ (m d : Nat), 2 ^ (m + 2) ∣ 5 ^ d - 1 → 2 ^ m ∣ d
  | 0, d, _ => by simp
  | m + 1, d, h => by
    have h8 : 8 ∣ 5 ^ d - 1 := by
      refine Nat.dvd_trans ?_ h
      rw [show (8 : Nat) = 2 ^ 3 by rfl]
      exact Nat.pow_dvd_pow 2 (by omega)
    have hd : d % 2 = 0 := by
      rcases Nat.mod_two_eq_zero_or_one d with e | e
      · exact e
      · exfalso
        obtain ⟨k, rfl⟩ : ∃ k, d = 2 * k + 1 := ⟨d / 2, by omega⟩
        have h25 : 5 ^ (2 * k + 1) % 8 = 5 := by
          clear h h8 e
          induction k with
          | zero => rfl
          | succ k ih =>
            rw [show 2 * (k + 1) + 1 = (2 * k + 1) + 2 by omega, Nat.pow_add]
            rw [Nat.mul_mod, ih]
        obtain ⟨q, hq⟩ := h8
        have : 0 < 5 ^ (2 * k + 1) := Nat.pow_pos (by decide)
        omega
    obtain ⟨e, rfl⟩ : ∃ e, d = 2 * e := ⟨d / 2, by omega⟩
    have h5 := five_odd_pow e
    have hp : 0 < 5 ^ e := Nat.pow_pos (by decide)
    obtain ⟨t, ht⟩ : ∃ t, 5 ^ e = 4 * t + 1 := ⟨5 ^ e / 4, by omega⟩
    have hsq : 5 ^ (2 * e) - 1 = (5 ^ e - 1) * (2 * (2 * t + 1)) := by
      rw [Nat.two_mul, Nat.pow_add, ht]
      simp only [Nat.add_sub_cancel]
      have : (4 * t + 1) * (4 * t + 1) = 4 * t * (2 * (2 * t + 1)) + 1 := by
        simp only [Nat.mul_add, Nat.add_mul, Nat.mul_one, Nat.one_mul]
        have e1 : 4 * t * (2 * (2 * t)) = 16 * (t * t) := by
          rw [show 2 * (2 * t) = 4 * t by omega]
          rw [Nat.mul_mul_mul_comm]
        have e2 : 4 * t * (4 * t) = 16 * (t * t) := by rw [Nat.mul_mul_mul_comm]
        omega
      omega
    rw [hsq, Nat.pow_succ, Nat.mul_comm (2 ^ (m + 2)) 2] at h
    have h2 : 2 * 2 ^ (m + 2) ∣ 2 * ((5 ^ e - 1) * (2 * t + 1)) := by
      have e3 : (5 ^ e - 1) * (2 * (2 * t + 1)) = 2 * ((5 ^ e - 1) * (2 * t + 1)) := by
        rw [← Nat.mul_assoc, Nat.mul_comm (5 ^ e - 1) 2, Nat.mul_assoc]
      rw [← e3]; rw [show m + 2 = m + 1 + 1 by rfl]; exact h
    have h3 : 2 ^ (m + 2) ∣ (5 ^ e - 1) * (2 * t + 1) := Nat.dvd_of_mul_dvd_mul_left (by decide) h2
    have hco : Nat.Coprime (2 ^ (m + 2)) (2 * t + 1) := by
      apply Nat.Coprime.pow_left
      show Nat.gcd 2 (2 * t + 1) = 1
      rw [Nat.gcd_rec]
      rw [show (2 * t + 1) % 2 = 1 by omega]
      rfl
    have h4 : 2 ^ (m + 2) ∣ 5 ^ e - 1 := Nat.Coprime.dvd_of_dvd_mul_right hco h3
    have h5' := order5 m e h4
    rw [Nat.pow_succ, Nat.mul_comm]
    exact Nat.mul_dvd_mul_left 2 h5'

/-- the walk x -> 5 x + 1 modulo N from x -/
def orb (N : Nat) (x : Nat) : Nat → Nat
  | 0 => x
  | n + 1 => (5 * orb N x n + 1) % N
theorem orb_lt {N x : Nat} (h : x < N) : ∀ n, orb N x n < N
  | 0 => h
  | n + 1 => Nat.mod_lt _ (by omega)
/-- four times the place and one is a power of five times what it was -/
theorem orb_pow {N x : Nat} (h : x < N) (n : Nat) : (4 * orb N x n + 1) % (4 * N) = (5 ^ n * (4 * x + 1)) % (4 * N) := by
  induction n with
  | zero => simp [orb]
  | succ n ih =>
    have e : (4 * orb N x (n + 1) + 1) % (4 * N) = (5 * (4 * orb N x n + 1)) % (4 * N) := by
      show (4 * ((5 * orb N x n + 1) % N) + 1) % (4 * N) = _
      have h1 : 4 * ((5 * orb N x n + 1) % N) = (4 * (5 * orb N x n + 1)) % (4 * N) := (Nat.mul_mod_mul_left 4 _ N).symm
      rw [h1, Nat.mod_add_mod]
      congr 1
      omega
    rw [e, Nat.mul_mod, ih, ← Nat.mul_mod, Nat.pow_succ, ← Nat.mul_assoc, Nat.mul_comm (5 ^ n) 5]
theorem odd_dvd {m y z : Nat} (hy : y % 2 = 1) (h : 2 ^ m ∣ z * y) : 2 ^ m ∣ z := by
  refine Nat.Coprime.dvd_of_dvd_mul_right ?_ h
  apply Nat.Coprime.pow_left
  show Nat.gcd 2 y = 1
  rw [Nat.gcd_rec, hy]
  rfl
theorem orb_ne {m x i j : Nat} (hx : x < 2 ^ m) (hij : i < j) (hj : j < i + 2 ^ m) : orb (2 ^ m) x i ≠ orb (2 ^ m) x j := by
  intro e
  have hi := orb_pow hx i
  have hj' := orb_pow hx j
  rw [← e] at hj'
  rw [hi] at hj'
  obtain ⟨d, rfl⟩ : ∃ d, j = i + d := ⟨j - i, by omega⟩
  have hd0 : 0 < d := by omega
  have hle : 5 ^ i * (4 * x + 1) ≤ 5 ^ (i + d) * (4 * x + 1) := Nat.mul_le_mul_right _ (Nat.pow_le_pow_right (by decide) (by omega))
  have hdv : 4 * 2 ^ m ∣ 5 ^ (i + d) * (4 * x + 1) - 5 ^ i * (4 * x + 1) := Nat.dvd_of_mod_eq_zero (Nat.sub_mod_eq_zero_of_mod_eq hj'.symm)
  have e4 : 4 * 2 ^ m = 2 ^ (m + 2) := by rw [Nat.pow_add]; omega
  rw [e4] at hdv
  have e5 : 5 ^ (i + d) * (4 * x + 1) - 5 ^ i * (4 * x + 1) = (5 ^ d - 1) * (5 ^ i * (4 * x + 1)) := by
    rw [Nat.pow_add, Nat.sub_mul, Nat.one_mul]
    congr 1
    rw [Nat.mul_comm (5 ^ i) (5 ^ d), Nat.mul_assoc]
  rw [e5] at hdv
  have hodd : (5 ^ i * (4 * x + 1)) % 2 = 1 := by
    have h5 := five_odd_pow i
    rw [Nat.mul_mod]
    rw [show 5 ^ i % 2 = 1 by omega, show (4 * x + 1) % 2 = 1 by omega]
  have h1 := order5 m d (odd_dvd hodd hdv)
  have := Nat.le_of_dvd hd0 h1
  omega

theorem len_le : ∀ (N : Nat) (l : List Nat), l.Nodup → (∀ x ∈ l, x < N) → l.length ≤ N
  | 0, l, _, h => by
    cases l with
    | nil => exact Nat.le_refl _
    | cons a t => exact absurd (h a List.mem_cons_self) (Nat.not_lt_zero _)
  | N + 1, l, nd, h => by
    by_cases hm : N ∈ l
    · have h1 := len_le N (l.erase N) (nd.erase _) (fun x hx => by
        have hx' := (nd.mem_erase_iff).mp hx
        have := h x hx'.2
        have := hx'.1
        omega)
      rw [List.length_erase_of_mem hm] at h1
      omega
    · have h1 := len_le N l nd (fun x hx => by
        have h2 := h x hx
        have h3 : x ≠ N := fun e => hm (e ▸ hx)
        omega)
      omega
theorem all_mem : ∀ (N : Nat) (l : List Nat), l.Nodup → (∀ x ∈ l, x < N) → l.length = N → ∀ x, x < N → x ∈ l := by
  intro N l nd h hl x hx
  refine Classical.byContradiction fun hm => ?_
  have h1 := len_le N (x :: l) (List.nodup_cons.mpr ⟨hm, nd⟩) (fun y hy => by
    rcases List.mem_cons.mp hy with rfl | hy
    · exact hx
    · exact h y hy)
  rw [List.length_cons] at h1
  omega
/-- from the sixth step on a path goes round the whole cycle -/
theorem slotAt_lt {size : Nat} (h : 0 < size) (code i : Nat) : slotAt size code i < size := by
  cases i <;> exact Nat.mod_lt _ h
theorem slotAt_orb {size code : Nat} (hc : code < 4294967296) (i : Nat) : slotAt size code (6 + i) = orb size (slotAt size code 6) i := by
  induction i with
  | zero => rfl
  | succ i ih =>
    show (5 * slotAt size code (6 + i) + code / 32 ^ (6 + i + 1) + 1) % size = (5 * orb size (slotAt size code 6) i + 1) % size
    rw [ih, push_zero hc (by omega), Nat.add_zero]
def tailOf (code size : Nat) : List Nat := (first code size (size + 6)).drop 6
theorem tailOf_eq (code size : Nat) : tailOf code size = (List.range size).map fun i => slotAt size code (6 + i) := by
  unfold tailOf
  rw [first_eq, ← List.map_drop, List.range_eq_range', List.drop_range', List.range_eq_range', List.range'_eq_map_range]
  rw [List.map_map]
  rw [show size + 6 - 6 = size by omega, List.range_eq_range']
  apply List.map_congr_left
  intro a _
  simp
theorem tail_nodup {m code : Nat} (hc : code < 4294967296) : (tailOf code (2 ^ m)).Nodup := by
  rw [tailOf_eq]
  have hp : 0 < 2 ^ m := Nat.pow_pos (by decide)
  rw [List.Nodup, List.pairwise_map]
  refine List.Pairwise.imp_of_mem ?_ (List.pairwise_lt_range (n := 2 ^ m))
  intro i j hi hj hij
  rw [List.mem_range] at hi hj
  rw [slotAt_orb hc, slotAt_orb hc]
  exact orb_ne (slotAt_lt hp _ _) hij (by omega)
theorem tail_lt {size : Nat} (h : 0 < size) (code : Nat) : ∀ x ∈ tailOf code size, x < size := by
  intro x hx
  rw [tailOf_eq] at hx
  obtain ⟨i, _, rfl⟩ := List.mem_map.mp hx
  exact slotAt_lt h _ _
theorem tail_len (code size : Nat) : (tailOf code size).length = size := by rw [tailOf_eq, List.length_map, List.length_range]
theorem tail_perm {m code : Nat} (hc : code < 4294967296) : (tailOf code (2 ^ m)).Perm (List.range (2 ^ m)) := by
  have hp : 0 < 2 ^ m := Nat.pow_pos (by decide)
  refine (List.perm_ext_iff_of_nodup (tail_nodup hc) List.nodup_range).mpr fun x => ⟨fun hx => ?_, fun hx => ?_⟩
  · exact List.mem_range.mpr (tail_lt hp code x hx)
  · exact all_mem _ _ (tail_nodup hc) (tail_lt hp code) (tail_len _ _) x (List.mem_range.mp hx)
theorem first_mem {m code : Nat} (hc : code < 4294967296) (x : Nat) : x ∈ first code (2 ^ m) (2 ^ m + 6) ↔ x < 2 ^ m := by
  have hp : 0 < 2 ^ m := Nat.pow_pos (by decide)
  constructor
  · intro hx
    exact pathN_lt hp _ _ _ (Nat.mod_lt _ hp) x hx
  · intro hx
    have : x ∈ tailOf code (2 ^ m) := (tail_perm hc).symm.subset (List.mem_range.mpr hx)
    exact List.mem_of_mem_drop this

/-! what two codes share -/
theorem slots_same {size a b : Nat} : ∀ (i : Nat), (∀ j, j ≤ i → a / 32 ^ j % size = b / 32 ^ j % size) → slotAt size a i = slotAt size b i
  | 0, h => by
    have := h 0 (Nat.le_refl _)
    simpa [slotAt] using this
  | i + 1, h => by
    have ih := slots_same i (fun j hj => h j (by omega))
    have h1 := h (i + 1) (Nat.le_refl _)
    show (5 * slotAt size a i + a / 32 ^ (i + 1) + 1) % size = (5 * slotAt size b i + b / 32 ^ (i + 1) + 1) % size
    rw [ih, Nat.add_assoc, Nat.add_assoc, Nat.add_mod, Nat.add_mod _ (b / 32 ^ (i + 1) + 1), Nat.add_mod (a / 32 ^ (i + 1)), Nat.add_mod (b / 32 ^ (i + 1)), h1]
theorem step_same {size a b i : Nat} (hs : 0 < size) (h : slotAt size a i = slotAt size b i) : slotAt size a (i + 1) = slotAt size b (i + 1) ↔ a / 32 ^ (i + 1) % size = b / 32 ^ (i + 1) % size := by
  show (5 * slotAt size a i + a / 32 ^ (i + 1) + 1) % size = (5 * slotAt size b i + b / 32 ^ (i + 1) + 1) % size ↔ _
  rw [h]
  have e : ∀ c : Nat, 5 * slotAt size b i + c + 1 = (5 * slotAt size b i + 1) + c := fun c => by omega
  rw [e, e]
  constructor
  · intro q
    have : ∀ x y d : Nat, (d + x) % size = (d + y) % size → x % size = y % size := by
      intro x y d q
      have h1 : ((d + x : Nat) : Int) % size = ((d + y : Nat) : Int) % size := by exact_mod_cast q
      have h2 : ((x : Nat) : Int) % size = ((y : Nat) : Int) % size := by
        have h3 : (size : Int) ∣ ((d + x : Nat) : Int) - ((d + y : Nat) : Int) := Int.dvd_of_emod_eq_zero (Int.emod_eq_emod_iff_emod_sub_eq_zero.mp h1)
        apply Int.emod_eq_emod_iff_emod_sub_eq_zero.mpr
        apply Int.emod_eq_zero_of_dvd
        have e3 : ((d + x : Nat) : Int) - ((d + y : Nat) : Int) = (x : Int) - y := by omega
        rw [← e3]; exact h3
      exact_mod_cast h2
    exact this _ _ _ q
  · intro q
    rw [Nat.add_mod, q, ← Nat.add_mod]
/-- codes that are equal modulo size * 32 ^ k share k + 1 slots -/
theorem share {size a b k : Nat} (h : a % (size * 32 ^ k) = b % (size * 32 ^ k)) : ∀ i, i ≤ k → slotAt size a i = slotAt size b i := by
  intro i hi
  refine slots_same i fun j hj => ?_
  have e : size * 32 ^ k = 32 ^ j * (size * 32 ^ (k - j)) := by
    have : 32 ^ k = 32 ^ j * 32 ^ (k - j) := by rw [← Nat.pow_add]; congr 1; omega
    rw [this, ← Nat.mul_assoc, Nat.mul_comm size, Nat.mul_assoc]
  have h1 : a % (32 ^ j * (size * 32 ^ (k - j))) / 32 ^ j = b % (32 ^ j * (size * 32 ^ (k - j))) / 32 ^ j := by rw [← e, h]
  rw [Nat.mod_mul_right_div_self, Nat.mod_mul_right_div_self] at h1
  have h2 : a / 32 ^ j % (size * 32 ^ (k - j)) % size = b / 32 ^ j % (size * 32 ^ (k - j)) % size := by rw [h1]
  rw [Nat.mod_mul_right_mod, Nat.mod_mul_right_mod] at h2
  exact h2
theorem first_take {a size n k : Nat} (h : k ≤ n) : (first a size n).take k = (List.range k).map (slotAt size a) := by
  rw [first_eq, ← List.map_take, List.take_range]
  rw [Nat.min_eq_left h]
/-- two starts of paths are equal: slot by slot -/
theorem take_same {a b size n k : Nat} (h : k ≤ n) : (first a size n).take k = (first b size n).take k ↔ ∀ i, i < k → slotAt size a i = slotAt size b i := by
  rw [first_take h, first_take h]
  constructor
  · intro q i hi
    have := List.map_inj_left.mp q i (List.mem_range.mpr hi)
    exact this
  · intro q
    exact List.map_congr_left fun i hi => q i (List.mem_range.mp hi)
/-- the law's question at a turn -/
theorem turn_same {a b size n k : Nat} (hs : 0 < size) (h : k + 1 ≤ n) (q : (first a size n).take k = (first b size n).take k) :
    ((first a size n).take (k + 1) = (first b size n).take (k + 1)) ↔ a / 32 ^ k % size = b / 32 ^ k % size := by
  rw [take_same (by omega)] at q ⊢
  cases k with
  | zero =>
    constructor
    · intro z
      have := z 0 (by omega)
      simpa [slotAt] using this
    · intro z i hi
      obtain rfl : i = 0 := by omega
      simpa [slotAt] using z
  | succ k =>
    have hk := q k (by omega)
    constructor
    · intro z
      exact (step_same hs hk).mp (z (k + 1) (by omega))
    · intro z i hi
      by_cases e : i < k + 1
      · exact q i e
      · obtain rfl : i = k + 1 := by omega
        exact (step_same hs hk).mpr z
end K12
set_option Elab.async false
set_option linter.all false
set_option maxRecDepth 100000
set_option maxHeartbeats 1000000
/-! Xo: own exception classes whose __init__ stores one field, over any built-in base: made as a value, raised, kept, asked for their class, their field read -/
namespace Xo
open PySem PySem.Spec PyProof.Rows L2 Builtin Builtin.ObjectAttr
/-- what the written part says of the class at C -/
structure XC (K : PySem.W.Frag) (C : Addr) : Prop where
  base : ∃ (B newId initId : String) (bmB : List Value), ExcBaseFacts B newId initId bmB ∧ StoreFacts B bmB "object.__setattr__" "object" ∧ PySem.W.excInitIn K C bmB newId = true ∧ PySem.W.excOver K C bmB = true
  hd : PySem.W.hasDictIn K C = true
  sa : PySem.W.findIn K (.ref C) "__setattr__" = some (some (.builtin "object.__setattr__"))
  ga : PySem.W.findIn K (.ref C) "__getattribute__" = some (some (.builtin "BaseException.__getattribute__"))
  gg : PySem.W.findIn K (.ref C) "__getattr__" = some none
  exC : PySem.W.subIn K (.ref C) (.type "BaseException") = some true
  tyC : PySem.W.typeIn K (.ref C) = some (.type "type")
  kC : PySem.W.keepIn K (.ref C) = true
section
variable {X : Cx} {pins : List (Addr × Obj)} {σ : L2.St} {H : Hp} {s : Shared} {a C : Addr} {f : Str} {y : V} {u : Value} {E : Value → Shared → Prop} {A : Around}
/-- the first store into a fresh exception -/
theorem store1 {K : PySem.W.Frag} {prog : Program} {w : World} {name : Str} {tk : Tok} {v : Value} {x : Addr} {fv : Array Value} {R : Result → Shared → Prop} (T : XC K C) (X : K.In s.heap)
    (hx : s.heap.get? x = some { cls := .ref C, data := .fields fv }) (hno : PySem.W.findIn K (.ref C) name = some none)
    (hq : ∀ h' tk' dx, (∀ b o, b ≠ x → s.heap.get? b = some o → h'.get? b = some o) → s.heap.objs.size ≤ dx → dx ≠ x → h'.get? x = some { cls := .ref C, dict := some dx, data := .fields fv } →
      h'.Ns1 dx (fun y => if y = name then some v else none) → R (.ok (.ret .none)) { s with heap := h', toks := tk' }) :
    codeAny (model prog w) A (.call (.builtin "object.__setattr__") ⟨[.ref x, .str name tk, v], []⟩) R s := by
  obtain ⟨B, newId, initId, bmB, fb, sf, ii, ov⟩ := T.base
  obtain ⟨cd, hc, hdd⟩ := PySem.W.any_some T.hd
  have I : PySem.W.InstAt s.heap x { cls := .ref C, data := .fields fv } C none := ⟨hx, rfl, rfl, trivial⟩
  refine PySem.W.osa_openX (r := none) sf X I ov (show PySem.W.takerIn K C name = some none from NoAttr.taker hno) fun b => ?_
  have hcls : PySem.W.Looks (model prog w) s.heap (classData C) cd := PySem.W.looks_clsIn X hc
  have hxs : x ≠ s.heap.objs.size := Nat.ne_of_lt (Heap.lt_size hx)
  have hdd' : cd.hasDict = true := hdd
  obtain ⟨nm, bs, mro, ns, qn, hd, sn, sb, ab, col, del⟩ := cd
  dsimp only at hdd'
  subst hdd'
  obtain ⟨hp, g, d, t, os⟩ := s
  dsimp only
  unfold storeInOwnDict ownDictForStores
  repeat (first | with_reducible refine HandSPX.store_in_new ?_ ?_ | with_reducible refine wpAny_loadPart_at hx ?_ | with_reducible refine hcls.at ?_ | wp_step)
  · exact ⟨_, #[], _, (Heap.get?_update_ne _ _ _ _ (Ne.symm hxs)).trans (Heap.get?_push_at rfl rfl), rfl, fun e z => absurd z (by simp), fun _ => rfl⟩
  · intro h1 tk1 n1 sb1
    have hx1 : (hp.push { cls := .type "dict", data := .dict #[] }).get? x = some { cls := .ref C, data := .fields fv } := Heap.get?_push_of_some _ hx
    exact hq h1 tk1 hp.objs.size (fun b o hb z => (sb1.2 b (Nat.ne_of_lt (Heap.lt_size z))).trans ((Heap.get?_update_ne _ _ _ _ hb).trans (Heap.get?_push_of_some _ z))) (Nat.le_refl _) (Ne.symm hxs) ((sb1.2 x hxs).trans (Heap.get?_update_self _ hx1 rfl)) n1
theorem ost1 {Q : Unit → Shared → Prop} (T : XC X.K C) (I : Inv X pins σ H s) (e : H a = some (exo a C none)) (hno : PySem.W.findIn X.K (.ref C) f = some none) (ry : RelV y u)
    (h : ∀ dx s', H dx = none → dx ≠ a → Inv X pins σ (upd (upd H a (exo a C (some dx))) dx (exd dx [(f, y)])) s' → Q () s') : wpAny (model X.prog X.w) A (setAttr (.ref a) f u) Q E s := by
  obtain ⟨t1, ho⟩ := exo_at I.hok e
  obtain ⟨h0, g, d, t, os⟩ := s
  refine PySem.W.set_plain I.kIn (od := none) ⟨ho, rfl, rfl, trivial⟩ T.sa ?_
  refine store1 T I.kIn ho hno fun h1 tk1 dx k dn dne hx hn => ?_
  have hnd : H dx = none := I.hok.fresh dn
  have J := I.write (t' := tk1) (x := a) (e := a) (o := exo a C (some dx)) (by rw [e]; exact True.intro) (.inl rfl) k ⟨_, hx⟩ (exo_ok hx)
  have fp : FpOk X pins (upd H a (exo a C (some dx))) dx := I.fpOk dn (by rw [upd_ne dne]; exact hnd)
  obtain ⟨o, es, ep, hob, hr⟩ := id hn
  exact h dx _ hnd dne (Pth.inv_track J fp ⟨o, hob⟩ (exd_ok hn (relO_put (fs := []) ry fun _ => True.intro)))
end
/-- self.f = v in such an __init__ -/
def tOst1 (f : Str) (to te : TE) (K : PySem.W.Frag) : TS := fun D σ H => te σ H fun y H1 => to σ H1 fun x H2 => ∃ a C : Addr, x = .ref a ∧ XC K C ∧ PySem.W.findIn K (.ref C) f = some none ∧ H2 a = some (exo a C none) ∧
  ∀ dx, H2 dx = none → dx ≠ a → D.nx σ (upd (upd H2 a (exo a C (some dx))) dx (exd dx [(f, y)]))
theorem ps_ost1 {X : Cx} {o e : Expr} {to te : TE} {f : Str} {p' pos : Pos} (ho : PE X o to) (he : PE X e te) (hs : swapsWith e (some (.Attribute o f p')) pos.line X.env = pure false := by rfl) : PS X (.Assign [.Attribute o f p'] e pos) (tOst1 f to te X.K) := by
  refine ⟨fun pins s σ H D I h => ?_⟩
  refine plainObj_wpAny_Assign_Attribute (thn (he.run pins s σ H _ I h) fun v s1 ⟨y, H1, I1, r1, q1⟩ => thn (ho.run pins s1 σ H1 _ I1 q1) fun u s2 ⟨x, H2, I2, r2, a, C, ex, T, hno, ea, q⟩ => ?_) hs
  subst ex
  cases (show u = Value.ref a from r2)
  exact ost1 T I2 ea hno r1 fun dx s3 n ne J => ⟨σ, _, J, q dx n ne⟩
/-- the promise of such an __init__ -/
def spXI (K : PySem.W.Frag) (f : Str) : Sp := fun vs H Q _ => ∃ (a C : Addr) (v : V), vs = [.ref a, v] ∧ XC K C ∧ PySem.W.findIn K (.ref C) f = some none ∧ H a = some (exo a C none) ∧
  ∀ d, H d = none → d ≠ a → Q .non (upd (upd H a (exo a C (some d))) d (exd d [(f, v)]))
theorem ok_xinit {P : Program} {w : World} {K : PySem.W.Frag} {mg : Str → Option Value} {base : Heap} {qual fld : Str} {st : Stmt} {fa : Addr} {fd : FuncData} {p1 p2 p3 p4 : Pos} (F : Fun K "__init__" qual st fa fd) (S : FnScope ["self", fld] ["self", fld] (defScope st))
    (hb : defBody st = [.Assign [.Attribute (.Name "self" p1) fld p2] (.Name fld p3) p4]) (hd1 : (fld == ("__debug__" : Str)) = false) (hd2 : (fld == ("__classdict__" : Str)) = false) : FnOk P w K mg base CX0 1 fa fd ["self", fld] (spXI K fld) := by
  refine F.ok S (fun vs H Q E h => ?_) (fun cdv A outer s H vs Q E hr h => ?_)
  · obtain ⟨a, C, v, rfl, _⟩ := h
    rfl
  · obtain ⟨a, C, v, rfl, T, hno, ea, k⟩ := h
    rw [hb]
    refine ⟨_, pss_one (ps_ost1 (pe_var (i := 0) rfl ((S.par "self" (by simp)).elim (fun z => .inl z) (fun z => .inr (.inl z)))) (pe_var (i := 1) rfl ((S.par fld (by simp)).elim (fun z => .inl z) (fun z => .inr (.inl z))) hd1 hd2)), ?_⟩
    exact ⟨v, rfl, .ref a, rfl, a, C, rfl, T, hno, ea, fun d hd hne => k d hd hne⟩
/-- the class's own def __init__, promised -/
structure XI (X : Cx) (C : Addr) (fld : Str) : Prop where
  T : XC X.K C
  no : PySem.W.findIn X.K (.ref C) fld = some none
  ini : ∃ (fI : Addr) (fd : FuncData), PySem.W.findIn X.K (.ref C) "__init__" = some (some (.ref fI)) ∧ PySem.W.typeIn X.K (.ref fI) = some (.type "function") ∧ Binds X.K fd ["self", fld] [] ∧ FnOk X.prog X.w X.K X.mg X.base CX0 1 fI fd ["self", fld] (spXI X.K fld)
section
variable {X : Cx} {pins : List (Addr × Obj)} {σ : L2.St} {H : Hp} {s : Shared} {C : Addr} {fld x : Str} {v : V} {u : Value} {e : Expr} {te : TE} {p pos : Pos}
theorem upd2 {H : Hp} {a : Addr} {o o' : HO} : upd (upd H a o) a o' = upd H a o' := by
  funext b
  unfold upd
  split <;> rfl
/-- the two objects behind the call's start -/
abbrev xHeap (h : Heap) (us : List Value) (C : Addr) : Heap := (h.push (PySem.W.kdv_tup us)).push (HandSPX.excO C h.objs.size)
theorem inv_start_x (I : Inv X pins σ H s) (us : List Value) : H (s.heap.objs.size + 1) = none ∧ (∀ b o, s.heap.get? b = some o → (xHeap s.heap us C).get? b = some o) ∧
    Inv X pins σ (upd H (s.heap.objs.size + 1) (exo (s.heap.objs.size + 1) C none)) { s with heap := xHeap s.heap us C } := by
  have hsz : s.heap.objs.size ≤ s.heap.objs.size + 1 := Nat.le_succ _
  have kk : ∀ b o, s.heap.get? b = some o → (xHeap s.heap us C).get? b = some o := fun b o q => Heap.get?_push_of_some _ (Heap.get?_push_of_some _ q)
  have hg : (xHeap s.heap us C).get? (s.heap.objs.size + 1) = some (HandSPX.excO C s.heap.objs.size) := by heap_get
  exact ⟨I.hok.fresh hsz, kk, I.laid (t' := s.toks) (o := exo (s.heap.objs.size + 1) C none) kk hsz (exo_ok hg)⟩
/-- C(v), the call -/
theorem run_x {R : Result → Shared → Prop} (T : XI X C fld) (hr : Room 2 X.A) (I : Inv X pins σ H s) (rv : RelV v u) {Q1 : VK}
    (hq1 : ∀ d, H d = none → d ≠ s.heap.objs.size + 1 → Q1 .non (upd (upd H (s.heap.objs.size + 1) (exo (s.heap.objs.size + 1) C (some d))) d (exd d [(fld, v)])))
    (hR : ∀ s', CE X.stack X.prog X.w (upd H (s.heap.objs.size + 1) (exo (s.heap.objs.size + 1) C none)) { s with heap := xHeap s.heap [u] C } Q1 .none s' → R (.ok (.ret (.ref (s.heap.objs.size + 1)))) s')
    (hQn : ∀ v' H', Q1 v' H' → v' = .non) : codeAny (model X.prog X.w) X.A (.call (.ref C) ⟨[u], []⟩) R s := by
  obtain ⟨hn, kk, I2⟩ := inv_start_x (C := C) I [u]
  obtain ⟨fI, fd, iC, tI, hb, F1⟩ := T.ini
  obtain ⟨B, newId, initId, bmB, fb, sf, ii, ov⟩ := T.T.base
  obtain ⟨nm, N, qn, bs, bm, hdct, sn, sub, ab, col, dd, k0, k1, k2, k3, k5, hC, hT⟩ := PySem.W.excInit_of I.kIn ii
  have hsp : spXI X.K fld [V.ref (s.heap.objs.size + 1), v] (upd H (s.heap.objs.size + 1) (exo (s.heap.objs.size + 1) C none)) Q1 E0 := by
    refine ⟨_, C, v, rfl, T.T, T.no, upd_same, fun d hd hne => ?_⟩
    rw [upd2]
    exact hq1 d (by rwa [upd_ne hne] at hd) hne
  obtain ⟨h0, g, dr, tk, os⟩ := s
  refine HandSPX.call_own fb hT hC (PySem.W.looks_findIn I.kIn iC) (fun self => PySem.W.bind_fn I.kIn self tI) (show 1 ≤ sizeLine by decide)
    (codeAny_mono (F1.run _ X.stack _ _ ⟨[Value.ref (h0.objs.size + 1), u], []⟩ [Value.ref (h0.objs.size + 1), u] [V.ref (h0.objs.size + 1), v] Q1 E0 (hr.make C [u] []) (I2.env0.make C [u] []) (hb _ [Value.ref (h0.objs.size + 1), u] I2.kIn rfl) (.cons (show L2.RelV (V.ref (h0.objs.size + 1)) (Value.ref (h0.objs.size + 1)) from rfl) (.cons rv .nil)) hsp) fun r s' hq' => ?_)
  cases r with
  | error er => exact (show False from hq').elim
  | ok fl =>
    cases fl with
    | ret u' =>
      have hq2 := hq'
      obtain ⟨v', H', os', bare', un', hok', rv', q'⟩ := hq'
      have ev := hQn _ _ q'
      subst ev
      cases rv'
      exact ⟨rfl, hR s' hq2⟩
    | next => exact False.elim hq'
    | brk => exact False.elim hq'
    | cont => exact False.elim hq'
/-- C(e), as a value: a new exception at a, its dict at d -/
def tXmk (C : Addr) (fld : Str) (ta : TA) : TE := fun σ H Q => ta σ H fun vs H1 => ∃ v, vs = [v] ∧ ∀ a d, H1 a = none → H1 d = none → d ≠ a → Q (.ref a) (upd (upd H1 a (exo a C (some d))) d (exd d [(fld, v)]))
theorem pe_xmk {es : List Expr} {ta : TA} (T : XI X C fld) (hr : Room 2 X.A) (hg : Gl X x) (hm : X.mg x = some (.ref C)) (ha : PA X (e :: es) ta) (hdb : (x == ("__debug__" : Str)) = false := by decide)
    (hst : starEach (e :: es) X.env = (false, eval e X.env) :: starEach es X.env := by rfl) (hpl : (backTo pos (starEach es X.env)).any (·.1) = false := by rfl) : PE X (.Call (.Name x p) (e :: es) [] pos) (tXmk C fld ta) := by
  refine ⟨fun pins s σ H Q I h => ?_⟩
  refine wpAny_Call_Name_kw (ld_glob I hg hm ?_ hdb)
  refine PySem.W.callWith_K (h₀ := X.base) I.ok.mod.kin T.T.kC (thn (ha.run pos pins s σ H _ I h) fun us s1 ⟨vs, H1, I1, r1, v, ev, q1⟩ => ⟨I1.kIn, ?_⟩) hst hpl
  subst ev
  obtain ⟨u, rfl, ru⟩ := r1.one
  obtain ⟨hn, kk, I2⟩ := inv_start_x (C := C) I1 [u]
  refine wpAny_call (run_x (Q1 := fun v' H' => v' = .non ∧ Q (.ref (s1.heap.objs.size + 1)) H') T hr I1 ru (fun d hd hne => ⟨rfl, q1 _ d hn hd hne⟩) (fun s' c => ?_) fun v' H' q => q.1)
  obtain ⟨v', H', I3, _, _, q⟩ := I2.after c
  exact ⟨.ref (s1.heap.objs.size + 1), H', I3, rfl, q⟩
/-- C(e), to be raised -/
def tXraise (C : Addr) (fld : Str) (ta : TA) : L2.St → Hp → XK → Prop := fun σ H Q => ta σ H fun vs H1 => ∃ v, vs = [v] ∧ ∀ d, H1 d = none → Q (.ref C) (some d) (upd H1 d (.xd [(fld, v)]))
theorem pmk_x {es : List Expr} {ta : TA} (T : XI X C fld) (hr : Room 2 X.A) (hg : Gl X x) (hm : X.mg x = some (.ref C)) (ha : PA X (e :: es) ta) (hdb : (x == ("__debug__" : Str)) = false := by decide)
    (hst : starEach (e :: es) X.env = (false, eval e X.env) :: starEach es X.env := by rfl) (hpl : (backTo pos (starEach es X.env)).any (·.1) = false := by rfl) : PMk X (.Call (.Name x p) (e :: es) [] pos) (tXraise C fld ta) := by
  intro pins s σ H Q I h
  refine wpAny_Call_Name_kw (ld_glob I hg hm ?_ hdb)
  refine PySem.W.callWith_K (h₀ := X.base) I.ok.mod.kin T.T.kC (thn (ha.run pos pins s σ H _ I h) fun us s1 ⟨vs, H1, I1, r1, v, ev, q1⟩ => ⟨I1.kIn, ?_⟩) hst hpl
  subst ev
  obtain ⟨u, rfl, ru⟩ := r1.one
  obtain ⟨hn, kk, I2⟩ := inv_start_x (C := C) I1 [u]
  refine wpAny_call (run_x (Q1 := fun v' H' => v' = .non ∧ ∃ d, H1 d = none ∧ d ≠ s1.heap.objs.size + 1 ∧ H' = upd (upd H1 (s1.heap.objs.size + 1) (exo (s1.heap.objs.size + 1) C (some d))) d (exd d [(fld, v)])) T hr I1 ru
    (fun d hd hne => ⟨rfl, d, hd, hne, rfl⟩) (fun s' c => ?_) fun v' H' q => q.1)
  obtain ⟨v', H', os', bare', un', hok', rv', ev, d, hd, hne, eH⟩ := c
  subst eH
  obtain ⟨h0, g, dr, tk, os⟩ := s1
  obtain ⟨h2, g2, d2, t2, os2⟩ := s'
  have eD : upd (del (upd (upd H1 (h0.objs.size + 1) (exo (h0.objs.size + 1) C (some d))) d (exd d [(fld, v)])) (h0.objs.size + 1)) d (.xd [(fld, v)]) = upd H1 d (.xd [(fld, v)]) := by
    funext b
    by_cases hb : b = d
    · rw [hb, upd_same, upd_same]
    · rw [upd_ne hb, upd_ne hb]
      by_cases hb2 : b = h0.objs.size + 1
      · rw [hb2, del_same]
        exact hn.symm
      · rw [del_ne hb2, upd_ne hb, upd_ne hb2]
  exact mk_end (raises_own T.T.exC T.T.tyC) I1 (Nat.le_succ _) kk un' hok' os' bare' (by rw [upd_ne (Ne.symm hne), upd_same]) upd_same hd (by rw [eD]; exact q1 d hd)
end
end Xo
set_option Elab.async false
set_option linter.all false
set_option maxRecDepth 100000
set_option maxHeartbeats 1000000
/-! Xt: try: .. except (A, B, C) as n: e = n, the exception kept -/
namespace Xo
open PySem PySem.Spec PyProof.Rows L2
/-- an exception that is kept: its class, its dict -/
def xob (a : Addr) (cls : Value) (d : Option Addr) : HO := .ext fun h => ∃ o vs, h.get? a = some o ∧ Zc cls d o ∧ o.data = .fields vs
theorem xob_ok {P : Program} {w : World} {H : Hp} {h : Heap} {a : Addr} {cls : Value} {d : Option Addr} {o : Obj} {vs : Array Value} (e : h.get? a = some o) (z : Zc cls d o) (f : o.data = .fields vs) : ObjOk P w H h a (xob a cls d) :=
  ⟨⟨o, vs, e, z, f⟩, ⟨o, e⟩, fun h1 h2 ⟨o', vs', e', z', f'⟩ k => ⟨o', vs', k _ e', z', f'⟩⟩
section
variable {X : Cx} {pins : List (Addr × Obj)} {σ : L2.St} {H : Hp} {s : Shared}
/-- tracked from now on, what the entry's heap had not -/
theorem inv_trackN {a : Addr} {o : HO} (I : Inv X pins σ H s) (h0 : X.s_0.heap.get? a = none) (hn : H a = none) (nL : a ≠ X.env.locals) (nC : ∀ y c, X.env.cells.lookup y = some c → c ≠ a) (nP : ∀ p ∈ X.pn ++ pins, p.1 ≠ a)
    (new : ObjOk X.prog X.w (upd H a o) s.heap a o) : Inv X pins σ (upd H a o) s := by
  have nt : ∀ {b u}, H b = some u → b ≠ a := fun {b u} e => ne_of_none e hn
  have n0 : ∀ {b u}, X.s_0.heap.get? b = some u → b ≠ a := fun {b u} e z => by
    rw [z, h0] at e
    cases e
  refine ⟨I.ok, I.os, I.bare, ⟨I.base.keep, I.base.slot, fun b u e n x => ?_, I.base.there, fun b xs e => ?_, fun b u v e => ?_, fun b ps e => ?_⟩, I.loc, I.cell, ?_, fun y c e => ?_, fun p hp => ?_, fun b u e => ?_, I.len⟩
  · rw [upd_ne (n0 e)]
    exact I.base.free b u e n x
  · have q := I.base.tups b xs e
    rw [upd_ne (nt q)]
    exact q
  · have q := I.base.frzs b u v e
    rw [upd_ne (nt q)]
    exact q
  · obtain ⟨more, q⟩ := I.base.tbls b ps e
    exact ⟨more, by rw [upd_ne (nt q)]; exact q⟩
  · rw [upd_ne (Ne.symm nL)]
    exact I.free
  · rw [upd_ne (nC y c e)]
    exact I.freeC y c e
  · obtain ⟨q1, q2, q3⟩ := I.pin p hp
    exact ⟨q1, by rw [upd_ne (nP p hp)]; exact q2, q3⟩
  · by_cases hb : b = a
    · rw [hb, upd_same] at e
      cases e
      rw [hb]
      exact new
    · rw [upd_ne hb] at e
      exact (I.hok b u e).stay (fun _ _ _ q => q) (fun c q => by rw [upd_ne (nt q)]; exact q) fun c xs q => by rw [upd_ne (nt q)]; exact q
theorem fl_keeps {B h h2 : Heap} {l : List Env} {a : Addr} {Z : Obj → Prop} (f : HandSPX.FlyingZ B l a Z h) (k : ∀ b o, h.get? b = some o → h2.get? b = some o) : HandSPX.FlyingZ B l a Z h2 := by
  obtain ⟨k1, k2, k3, oe, vs, T, oT, ts, e1, e2, e3, e4, e5, e6, e7, e8, e9⟩ := f
  exact ⟨fun b o q => k b o (k1 b o q), k2, Heap.FunFrames.of_keeps (fun b o e _ => ⟨o, k b o e, rfl⟩) k3, oe, vs, T, oT, ts, k _ _ e1, e2, e3, e4, e5, e6, k _ _ e7, e8, e9⟩
end
/-- what the clause wishes of an exception of the body -/
def wKeep (K : PySem.W.Frag) (cs : List Value) (i j : Nat) (D : Ends) : WX := fun cls d σ H => PySem.W.exmAny K cls cs = some true ∧ ∀ a, H a = none → D.nx (((σ.set i (some (.ref a))).set j (some (.ref a))).set i none) (upd H a (xob a cls d))
section
variable {X : Cx} {n y x1 x2 x3 : Str} {C1 C2 C3 : Addr} {i j k : Nat} {body : List Stmt} {q1 q2 q3 qt py pn pa pos pos' : Pos} {tb : WX → TS}
theorem ps_try_keep (hs : X.stack = X.env :: X.outer) (hf : X.env.frame = some X.env.locals) (hex : X.ex = []) (hN : X.N.Nodup) (hi : X.N[i]? = some n) (hln : X.env.kindOf n = some .local) (hj : X.N[j]? = some y) (hlj : X.env.kindOf y = some .local)
    (g1 : Gl X x1 ∧ X.mg x1 = some (.ref C1) ∧ (x1 == ("__debug__" : Str)) = false) (g2 : Gl X x2 ∧ X.mg x2 = some (.ref C2) ∧ (x2 == ("__debug__" : Str)) = false) (g3 : Gl X x3 ∧ X.mg x3 = some (.ref C3) ∧ (x3 == ("__debug__" : Str)) = false)
    (hdn : (n == ("__debug__" : Str)) = false) (hdc : (n == ("__classdict__" : Str)) = false)
    (hb : ∀ (W : WX) (pn : List (Addr × Obj)) (xe : Value → Shared → Prop), Takes (X.tr pn xe) W → PassesOwn (model X.prog X.w) X.A X.env xe → PSs (X.tr pn xe) body (tb W)) :
    PS X (.Try body [.ExceptHandler (some (.Tuple [.Name x1 q1, .Name x2 q2, .Name x3 q3] k qt)) (some n) [.Assign [.Name y py] (.Name n pn) pa] pos'] [] [] pos)
      (fun D σ H => tb (wKeep X.K [.ref C1, .ref C2, .ref C3] i j D) D σ H) := by
  refine ⟨fun pins s σ H D I h => ?_⟩
  have okX := I.ok
  have frX : X.A.frames = some (X.env :: X.outer) := by rw [okX.frames, hs]
  have locN : Loc X.env.scope n := .inl hln
  refine wpAny_Try_except ?_
  refine wpAny_mono ((hb (wKeep X.K [.ref C1, .ref C2, .ref C3] i j D) (X.pn ++ pins) (fun e t1 => wpAny (model X.prog X.w) X.A (noteFrame e X.env) (fun _ t2 => wpAny (model X.prog X.w) X.A (setFlight e none)
    (fun _ t3 => wpAny (model X.prog X.w) X.A (handleBy e X.env [.ExceptHandler (some (.Tuple [.Name x1 q1, .Name x2 q2, .Name x3 q3] k qt)) (some n) [.Assign [.Name y py] (.Name n pn) pa] pos']) (SP X pins D) X.xe t3) X.xe t2) X.xe t1)
    (fun u t xx => ?_) PassesOwn.looking).run [] s σ H D (I.toTry _) h) (fun fl t hsp => ?_) (fun e t he => he)
  · obtain ⟨a, B, t0, pins', σ', H', cls, d, rfl, J', nb, up, sky, na, hos, hag, hany, hnx⟩ := xx
    have J : Inv X pins σ' H' t0 := J'.ofTry okX
    have sky2 : Sky B (X.env :: X.outer) a (Zc cls d) X.env.locals t.heap := by rw [← hs]; exact sky
    show wpAny (model X.prog X.w) X.A (noteFrame (.ref a) X.env) _ _ _
    refine Sky.land Zc.steady frX hf sky2 fun h3 fl3 up3 => ?_
    have J3 : Inv X pins σ' H' { t with heap := h3 } := J.landed nb fl3.1 (up.trans up3) hos hag
    obtain ⟨o3, vs3, he3, hz3, hd3⟩ := fl3.there
    have nfr : a ∉ frs (X.env :: X.outer) := fun hm => by
      obtain ⟨_, o', e', hnf⟩ := fl3.2.2.1.mem hm
      rw [he3] at e'
      cases e'
      exact hnf _ hd3
    have nL : a ≠ X.env.locals := fun z => nfr (List.mem_filterMap.mpr ⟨X.env, List.mem_cons_self, by rw [hf, z]⟩)
    have nF : a ∉ X.fs := fun hm => by
      obtain ⟨e, he, q⟩ := List.mem_filterMap.mp hm
      exact nfr (List.mem_filterMap.mpr ⟨e, List.mem_cons_of_mem _ he, q⟩)
    have S3 := J3.suite he3 hd3 na nL nF
    -- the tuple of the classes
    refine wpAny_handleBy_cons (codeAny_handlers_test ?_) (by intro q; cases q)
    refine wpAny_Tuple (wpAny_items_cons (ld_glob (X := X.suite a ((a, o3) :: (X.pn ++ pins))) S3 g1.1 g1.2.1 (wpAny_items_cons (ld_glob (X := X.suite a ((a, o3) :: (X.pn ++ pins))) S3 g2.1 g2.2.1
      (wpAny_items_cons (ld_glob (X := X.suite a ((a, o3) :: (X.pn ++ pins))) S3 g3.1 g3.2.1 (wpAny_items_nil ⟨(show 3 ≤ sizeLine by decide), ?_⟩) g3.2.2)) g2.2.2)) g1.2.2))
    have kp : ∀ b o, h3.get? b = some o → (h3.push { cls := .type "tuple", data := .seq [Value.ref C1, .ref C2, .ref C3].toArray }).get? b = some o := fun _ _ z => Heap.get?_push_of_some _ z
    have htp : (h3.push { cls := .type "tuple", data := .seq [Value.ref C1, .ref C2, .ref C3].toArray }).get? h3.objs.size = some { cls := .type "tuple", data := .seq [Value.ref C1, .ref C2, .ref C3].toArray } := Heap.get?_push_size h3 rfl
    show wpAny _ _ (excMatches (.ref a) (.ref h3.objs.size)) _ _ { t with heap := h3.push { cls := .type "tuple", data := .seq [Value.ref C1, .ref C2, .ref C3].toArray } }
    generalize h3.push { cls := .type "tuple", data := .seq [Value.ref C1, .ref C2, .ref C3].toArray } = h4 at kp htp
    have fl4 := fl_keeps fl3 kp
    have he4 := kp _ _ he3
    have LT : PySem.W.Looks (model X.prog X.w) h4 (typeOf (.ref a)) cls := fun A Q E s k q => wpAny_typeOf_ref (k _ _ he4) (by rw [hz3.1]; exact q)
    refine (PySem.W.exm_tup3 (M := model X.prog X.w) (J3.kIn.keeps kp) LT htp hany).here ?_
    refine codeAny_handlers_suite_as ?_
    refine HandSPX.lands_againZ fl4 fun h5 fl5 up5 => ?_
    have J5 : Inv X pins σ' H' { t with heap := h5 } := J.landed nb fl5.1 (((up.trans up3).trans (Heap.UpToSlots.of_keeps kp)).trans up5) hos hag
    obtain ⟨o5, vs5, he5, hz5, hd5⟩ := fl5.there
    have S5 := J5.suite he5 hd5 na nL nF
    refine store_ok (X := X.suite a ((a, o5) :: (X.pn ++ pins))) (v := .ref a) S5 hN hi locN rfl (fun t6 S6 => ?_) (.inr hln)
    have suite : PSs (X.suite a ((a, o5) :: (X.pn ++ pins))) [.Assign [.Name y py] (.Name n pn) pa] (tAsg (tVar i) (gName j)) := pss_one (ps_set (i := j) hN hj (.inl hlj) (pe_var (i := i) hi (.inl hln) hdn hdc) (by rfl) (.inr hlj))
    have hil : i < σ'.length := by
      rw [J.len]
      exact (List.getElem?_eq_some_iff.mp hi).1
    refine wpAny_mono (suite.run [] t6 _ H' { nx := fun σ6 H6 => σ6 = (σ'.set i (some (.ref a))).set j (some (.ref a)) ∧ H6 = H', rt := fun _ _ => False } S6 ⟨.ref a, by rw [List.getElem?_set_self hil], rfl, rfl⟩) (fun fl t7 hsp => ?_) (fun _ _ z => False.elim z)
    cases fl with
    | next =>
      obtain ⟨σ7, H7, S7, rfl, rfl⟩ := hsp
      have J7 := S7.unsuite okX
      obtain ⟨he7, _⟩ := S7.pin (a, o5) (List.mem_append_left _ List.mem_cons_self)
      have n0 : ∀ b o, t0.heap.get? b = some o → b ≠ a := fun b o e z => by
        rw [z] at e
        have q := nb a o e (by rw [hs]; exact nfr)
        rw [fl3.2.1] at q
        cases q
      have hs0 : X.s_0.heap.get? a = none := by
        cases q : X.s_0.heap.get? a with
        | none => rfl
        | some o =>
          obtain ⟨o', q'⟩ := J.base.there a o q (by rw [hex]; simp)
          exact absurd rfl (n0 a o' q')
      have J8 := inv_trackN (o := xob a cls d) J7 hs0 na nL (fun y c e z => by
        obtain ⟨v, oc, q1, q2⟩ := J7.cell y c e
        rw [z, he7] at q1
        cases q1
        rw [hd5] at q2
        cases q2) (fun p hp => n0 _ _ (J.pin p hp).1) (xob_ok he7 hz5 hd5)
      exact gone_ok J8 hN hi hln fun t9 J9 => ⟨_, _, J9, hnx a na⟩
    | brk =>
      obtain ⟨_, _, _, q⟩ := hsp
      exact False.elim q
    | cont =>
      obtain ⟨_, _, _, q⟩ := hsp
      exact False.elim q
    | ret u =>
      obtain ⟨_, _, _, _, _, q⟩ := hsp
      exact False.elim q
  · cases fl with
    | next =>
      obtain ⟨σ', H', J', q⟩ := hsp
      exact wpAny_execs_nil ⟨σ', H', J'.ofTry okX, q⟩
    | brk =>
      obtain ⟨σ', H', J', q⟩ := hsp
      exact ⟨σ', H', J'.ofTry okX, q⟩
    | cont =>
      obtain ⟨σ', H', J', q⟩ := hsp
      exact ⟨σ', H', J'.ofTry okX, q⟩
    | ret u =>
      obtain ⟨v, σ', H', J', r, q⟩ := hsp
      exact ⟨v, σ', H', J'.ofTry okX, r, q⟩
end
end Xo
set_option Elab.async false
set_option linter.all false
set_option maxRecDepth 100000
set_option maxHeartbeats 1000000
/-! Xi: a kept exception asked for its class; its field read -/
namespace PySem.W
open PySem PySem.Spec PySem.Calls PyProof.Rows
section
variable {prog : Program} {w : World} {A : Around} {E : Value → Shared → Prop} {s : Shared} {K : Frag} {x D : Addr} {ox od : Obj}
/-- its __class__ -/
theorem xi_class {Q : Option Value → Shared → Prop} (T : L2.ExcC K D) (X : K.In s.heap) (I : InstAt s.heap x ox D (some od)) (h : Q (some (.ref D)) { s with toks := s.toks + 1 }) : wpAny (model prog w) A (getAttr? (.ref x) "__class__") Q E s := by
  have fo : findObj K D (some od) "__class__" = some (.bind (.builtin "getset_descriptor.__get__") (.builtin "object.__class__")) := findObj_data (by obtain ⟨cd, hc, _⟩ := any_some T.hd; rw [hc]; rfl) T.ha T.hn T.ht
  obtain ⟨h0, g, d, t, os⟩ := s
  have K0 := I.type (M := model prog w)
  have K1 := looks_findIn (M := model prog w) X T.hg
  have K2 := looks_findIn (M := model prog w) X T.hk
  have K3 := looks_find (M := model prog w) X I fo
  have isB : Looks (model prog w) h0 (isInstance (.ref x) (.type "BaseException")) true := K0.andThen (looks_subIn X T.hs)
  have c0 : (false && onTheHeap (Value.builtin "BaseException.__getattribute__")) = false := rfl
  have c1 : (onTheHeap (Value.ref D) && Value.builtin "BaseException.__getattribute__" == Value.builtin "object.__getattribute__") = false := by
    rw [show (Value.builtin "BaseException.__getattribute__" == Value.builtin "object.__getattribute__") = false by decide +kernel]
    rfl
  unfold getAttr? getAttrBy? getAttrBy
  refine wpAny_bind (wpAny_mkText (wpAny_bind (wpAny_attempt (wpAny_holding (wpAny_bind (K0.at (wpAny_bind (K1.at ?_))))))))
  show wpAny _ _ (if (onTheHeap (Value.ref D) && Value.builtin "BaseException.__getattribute__" == Value.builtin "object.__getattribute__") = true then _ else _) _ _ ⟨h0, g, d, t + 1, os⟩
  rw [c1, if_neg Bool.false_ne_true]
  unfold getAttrByItsOwn hookBefore
  refine wpAny_bind ?_
  rw [if_pos (show onTheHeap (Value.ref D) = true from rfl)]
  refine K2.at (wpAny_bind (wpAny_attempt (wpAny_holding ?_)))
  unfold callGetattribute
  rw [c0, if_neg Bool.false_ne_true]
  unfold boundAndCalled
  rw [F.excAttr_ValueError.ga.bind (.ref x)]
  refine wpAny_bind (wpAny_pure ?_)
  refine wpAny_call (codeAny_call_builtin F.excAttr_ValueError.ga.plain F.entry_bexc_ga ?_)
  refine @check_slot (model prog w) _ _ ⟨h0, g, d, t + 1, os⟩ "BaseException.__getattribute__" "BaseException" "__getattribute__" (.ref x) [.str "__class__" t] [] _ (by decide +kernel) (by decide +kernel) isB (F.args_bexc_ga (.ref x) (.str "__class__" t)) ?_
  unfold Builtin.«object.__getattribute__»
  refine wpAny_bind (wpAny_of_eq (a := ((Value.ref x : Value), [Value.str "__class__" t])) (by first | rfl | (simp only [slotArgs]; rfl)) ?_)
  refine wpAny_bind (wpAny_pure (wpAny_bind (K0.at (wpAny_bind (K3.at ?_)))))
  refine wpAny_bind (wpAny_holding (wpAny_call (class_get (s := ⟨h0, g, d, t + 1, os⟩) X I T.hm ?_)))
  refine wpAny_pure ?_
  show wpAny _ _ (handedOut (.ref D)) _ _ ⟨h0, g, d, t + 1, os⟩
  rw [handedOut_of (v := .ref D) rfl]
  first
    | exact wpAny_pure (wpAny_pure h)
    | exact wpAny_pure h
    | exact wpAny_pure (wpAny_bind (wpAny_pure (wpAny_pure h)))
theorem xi_kit (T : L2.ExcC K D) : KitX K (.ref x) (.ref D) (fun h => InstAt h x ox D (some od)) where
  ty := fun _ _ _ I => I.type
  it := fun _ _ X _ => by
    obtain ⟨cd, hc, _⟩ := any_some T.hd
    unfold clsIn at hc
    split at hc
    · rename_i ho
      intro A' Q' E' s' k q
      unfold isType loadHead
      exact wpAny_bind (wpAny_loadPart (k _ _ (X _ _ ho)) (wpAny_pure q))
    · cases hc
  ne := fun h tp dd its n sl X htp => Bool.eq_false_iff.mpr fun q => by
    obtain ⟨cd, hc, _⟩ := any_some T.hd
    have e : D = tp := Value.ref.inj (beq_iff_eq.mp q)
    subst e
    unfold clsIn at hc
    split at hc
    · rename_i ho
      cases (X _ _ ho).symm.trans htp
    · cases hc
  ca := fun X I k => xi_class T X I k
end
end PySem.W
namespace Xo
open PySem PySem.Spec PyProof.Rows L2
/-- an exception of the class at C stands at a, its fields fs at d -/
def XAt (H : Hp) (a C d : Addr) (fs : List (Str × V)) : Prop := (H a = some (exo a C (some d)) ∨ H a = some (xob a (.ref C) (some d))) ∧ (H d = some (exd d fs) ∨ H d = some (.xd fs))
section
variable {X : Cx} {pins : List (Addr × Obj)} {σ : L2.St} {H : Hp} {s : Shared} {a C d : Addr} {fs : List (Str × V)}
theorem xat (I : Inv X pins σ H s) (h : XAt H a C d fs) : ∃ o od mA, PySem.W.InstAt s.heap a o C (some od) ∧ s.heap.get? d = some od ∧ s.heap.Ns1 d mA ∧ ∀ f, RelO (fs.lookup f) (mA f) := by
  have e1 : ∃ o vs, s.heap.get? a = some o ∧ Zc (.ref C) (some d) o ∧ o.data = .fields vs := by
    rcases h.1 with e | e
    · obtain ⟨t1, q⟩ := exo_at I.hok e
      exact ⟨_, _, q, ⟨rfl, rfl⟩, rfl⟩
    · have x : ObjOk X.prog X.w H s.heap a (.ext fun h => ∃ o vs, h.get? a = some o ∧ Zc (.ref C) (some d) o ∧ o.data = .fields vs) := I.hok a _ e
      exact x.1
  have e2 : ∃ mA, s.heap.Ns1 d mA ∧ ∀ f, RelO (fs.lookup f) (mA f) := by
    rcases h.2 with e | e
    · exact exd_at I.hok e
    · exact (show ObjOk X.prog X.w H s.heap d (.xd fs) from I.hok d _ e)
  obtain ⟨o, vs, q1, q2, q3⟩ := e1
  obtain ⟨mA, n1, r⟩ := e2
  obtain ⟨od, ho, hl⟩ := lookIn_ns n1
  exact ⟨o, od, mA, ⟨q1, q2.1, by unfold PySem.W.notCls; rw [q3] <;> rfl, by rw [q2.2]; exact ho⟩, ho, n1, r⟩
/-- isinstance(e, c): one class -/
def rIsX (K : PySem.W.Frag) : List V → Hp → VK → Prop := fun xs H Q => ∃ (a C d : Addr) (fs : List (Str × V)) (c : V) (cv : Value) (b : Bool), xs = [.ref a, c] ∧ XAt H a C d fs ∧ ExcC K C ∧ ClsV c cv ∧ PySem.W.kitOne K (.ref C) cv = some b ∧ Q (.bl b) H
theorem call_isX : CallR X (.builtin "isinstance") (rIsX X.K) := by
  intro pins s σ H xs us Q I r h
  obtain ⟨a, C, d, fs, c, cv, b, rfl, xa, T, hc, e, q⟩ := h
  obtain ⟨u1, u2, rfl, r1, r2⟩ := vals2 r
  obtain rfl : u1 = Value.ref a := r1
  obtain ⟨o, od, mA, J, _⟩ := xat I xa
  cases hc.eq r2
  exact PySem.W.kia_one (PySem.W.xi_kit T) I.kIn J e (fun z => nomatch z) fun tk => ⟨.bl b, H, I.tok tk, rfl, q⟩
/-- isinstance(e, (c1, ..)) -/
def rIsXT (K : PySem.W.Frag) : List V → Hp → VK → Prop := fun xs H Q => ∃ (a C d : Addr) (fs : List (Str × V)) (tp : Addr) (cs : List V) (us : List Value) (b : Bool), xs = [.ref a, .ref tp] ∧ XAt H a C d fs ∧ ExcC K C ∧ H tp = some (.tup cs) ∧ Paired ClsV cs us ∧ PySem.W.kitAny K (.ref C) us = some b ∧ Q (.bl b) H
theorem call_isXT : CallR X (.builtin "isinstance") (rIsXT X.K) := by
  intro pins s σ H xs us Q I r h
  obtain ⟨a, C, d, fs, tp, cs, ws, b, rfl, xa, T, hT, k, e, q⟩ := h
  obtain ⟨u1, u2, rfl, r1, r2⟩ := vals2 r
  obtain rfl : u1 = Value.ref a := r1
  obtain rfl : u2 = Value.ref tp := r2
  obtain ⟨o, od, mA, J, _⟩ := xat I xa
  obtain ⟨_, its, rv, ob, h1, h2, n, h3⟩ := (show ObjOk X.prog X.w H s.heap tp (.tup cs) from I.hok tp _ hT)
  cases ClsV.all k rv
  obtain ⟨oc, dct, dt, sl⟩ := ob
  dsimp only at h2 h3
  subst h2 h3
  exact PySem.W.kia_tup (PySem.W.xi_kit T) I.kIn J h1 e (fun z => nomatch z) fun tk => ⟨.bl b, H, I.tok tk, rfl, q⟩
/-- e.f -/
def tXfld (K : PySem.W.Frag) (f : Str) (te : TE) : TE := fun σ H Q => te σ H fun x H1 => ∃ (a C d : Addr) (fs : List (Str × V)) (v : V), x = .ref a ∧ XAt H1 a C d fs ∧ XC K C ∧ PySem.W.findIn K (.ref C) f = some none ∧ fs.lookup f = some v ∧ Q v H1
theorem pe_xfld {e : Expr} {te : TE} {n : Str} {pos : Pos} (he : PE X e te) (hb : attributeBase e n X.env (eval e X.env) = eval e X.env := by rfl) : PE X (.Attribute e n pos) (tXfld X.K n te) := by
  refine ⟨fun pins s σ H Q I h => ?_⟩
  refine attr_of hb (thn (he.run pins s σ H _ I h) fun u s1 ⟨x, H1, I1, rx, a, C, d, fs, v, ex, xa, T, hno, hl, q⟩ => ?_)
  subst ex
  obtain rfl : u = Value.ref a := rx
  obtain ⟨o, od, mA, J, ho, n1, r⟩ := xat I1 xa
  obtain ⟨od', ho', hl'⟩ := lookIn_ns n1
  rw [ho] at ho'
  cases ho'
  obtain ⟨u, hu, ru⟩ := RelO.some_of (v := v) (o := mA n) (by rw [← hl]; exact r n)
  exact HandSPX.exc_get I1.kIn J T.ga T.gg T.exC (PySem.W.findObj_own T.hd hno rfl (by rw [hl', hu])) (handed_of ru) ⟨v, H1, I1.tok _, ru, q⟩
end
end Xo
set_option Elab.async false
set_option linter.all false
set_option maxRecDepth 100000
set_option maxHeartbeats 1000000
/-! Lm: x(lambda: e) and x(lambda n=0: e), the lambda called by x -/
namespace Lm
open PySem PySem.Spec PyProof.Rows L2 LamX
/-- the lambda's function -/
abbrev lmFn (q : Str) (params : Arguments) (body : Expr) (scope : Scope) (cl : List (Str × Addr)) (dV doc pm : Value) (c' : Addr) (ctv : Value) : FuncData := PySem.W.kdv_fn "<lambda>" q params (.expr body) scope cl dV doc pm (.ref c') ctv
/-- what is asked of its names: captured ones, globals, and parameters that the maker's text has no name like -/
structure LmS (N : List Str) (sc scope : Scope) (own : List Str) : Prop where
  kind : scope.kind = .function
  co : scope.isCoroutine = false
  gen : scope.isGenerator = false
  noc : ∀ y ∈ scope.names, y.2 ≠ .cell
  loc : ∀ y ∈ scope.names, y.2 = .local → y.1 ∉ N
  free : ∀ y ∈ scope.names, y.2 = .free → sc.names.lookup y.1 = some .cell ∨ sc.names.lookup y.1 = some .free
  par : ∀ n ∈ own, scope.names.lookup n = some .local
def lmB (N : List Str) (sc scope : Scope) (own : List Str) : Bool :=
  decide (scope.kind = .function) && (!scope.isCoroutine && (!scope.isGenerator && ((scope.names.all fun y => !decide (y.2 = .cell)) && ((scope.names.all fun y => !decide (y.2 = .local) || !decide (y.1 ∈ N)) &&
    ((scope.names.all fun y => !decide (y.2 = .free) || (decide (sc.names.lookup y.1 = some .cell) || decide (sc.names.lookup y.1 = some .free))) && (own.all fun n => decide (scope.names.lookup n = some .local)))))))
theorem lm_by {N : List Str} {sc scope : Scope} {own : List Str} (h : lmB N sc scope own = true) : LmS N sc scope own := by
  unfold lmB at h
  simp only [Bool.and_eq_true, Bool.or_eq_true, Bool.not_eq_true', decide_eq_true_eq, decide_eq_false_iff_not, List.all_eq_true] at h
  obtain ⟨h1, h2, h3, h4, h5, h6, h7⟩ := h
  exact ⟨h1, h2, h3, h4, fun y hy e => (h5 y hy).elim (fun z => absurd e z) id, fun y hy e => (h6 y hy).elim (fun z => absurd e z) id, h7⟩
section
variable {X : Cx} {pins : List (Addr × Obj)} {σ : L2.St} {H : Hp} {s : Shared}
theorem LmS.has {scope : Scope} {own : List Str} (L : LmS X.N X.env.scope scope own) (ok : X.Ok) : ∀ y ∈ scope.names, y.2 = .free → ∃ c, X.env.cells.lookup y.1 = some c := fun y hy e =>
  (L.free y hy e).elim (fun k => ok.has _ (.inl k)) fun k => ok.has _ (.inr k)
/-- behind the defaults -/
theorem lm_tail {T : List (Addr × Str)} {c P : Addr} {params : Arguments} {body : Expr} {scope : Scope} {dV : Value} {pos : Pos} {E : Value → Shared → Prop} {Q : Value → Shared → Prop} (I : Inv X pins σ H s) (TB : TabB X.base X.mg c P) (hcode : X.env.code = .ref c)
    (hm : (P, X.env.qual ++ "<lambda>") ∈ T) (hu : ∀ p ∈ T, p.1 = P → p.2 = X.env.qual ++ "<lambda>") (hT : Tabs T H) (hfree : ∀ y ∈ scope.names, y.2 = .free → ∃ c, X.env.cells.lookup y.1 = some c)
    (h : ∀ (f c' : Addr) (doc pm ctv : Value) (H1 : Hp) (s' : Shared), Inv X pins σ H1 s' → ExtN H H1 → Tabs T H1 → (∀ b o, s.heap.get? b = some o → H b = none → s'.heap.get? b = some o ∧ H1 b = none) →
      s'.heap.get? f = some { cls := .type "function", data := .func (lmFn (X.env.qual ++ "<lambda>") params body scope (cloFrom X.env.cells scope.names []) dV doc pm c' ctv) } → H1 f = none → f ∉ frs X.stack → H1 c' = some (CodeO c' (X.env.qual ++ "<lambda>")) → Q (.ref f) s') :
    wpAny (model X.prog X.w) X.A (makeTail "<lambda>" (X.env.qual ++ "<lambda>") params (.expr body) scope X.env dV .none none pos pos.line) Q E s := by
  obtain ⟨ps, hP, ht, ha⟩ := hT _ hm
  have bP : s.heap.BuiltinsAt X.mg P := TB.bm.keeps I.bk
  have oP : s.heap.get? P = some { cls := .none, data := .fields ps } := I.hok P _ hP
  have out : ∀ f, s.heap.objs.size ≤ f → f ∉ frs X.stack := fun f hf z => by
    rcases List.mem_cons.mp (I.stkSub _ z) with e | e
    · have := I.lt
      rw [← e] at this
      exact Nat.lt_irrefl _ (Nat.lt_of_lt_of_le this hf)
    · exact I.nofs hf e
  cases hc : codeAmong pos ps.toList with
  | none =>
    refine PySem.W.kdv_makeTail (mg := X.mg) (c := c) (P := P) (ps := ps) (closure_ok hfree) I.ok.glob (I.mod.glob.keeps I.bk) hcode (TB.code.keeps I.bk) oP ht hc TB.gP bP fun c' ctv doc h1 tk hx hge hlt hrec htb => ?_
    obtain ⟨c2, oc, vs, t, e2, hoc, hd, hv⟩ := hrec
    cases e2
    have hz : s.heap.objs.size ≤ h1.objs.size := Nat.le_trans hge (Nat.le_of_lt hlt)
    have nC : H c' = none := I.hok.fresh hge
    have I1 := inv_table (t' := tk) (more := #[rawInt pos.line, rawInt pos.col, .ref c'])
      (h' := h1.push { cls := .type "function", data := .func (lmFn (X.env.qual ++ "<lambda>") params body scope (cloFrom X.env.cells scope.names []) dV doc ((X.mg "__name__").getD .none) c' ctv) }) I hP
      (fun b o hb e => Heap.get?_push_of_some _ (hx b o hb e)) (Heap.get?_push_of_some _ htb) hge ⟨oc, vs, t, Heap.get?_push_of_some _ hoc, hd, hv⟩
    have nPb : ∀ b, H b = none → b ≠ P := fun b e z => by
      rw [z, hP] at e
      cases e
    have eN : ExtN H (upd (upd H P (.tbl (ps ++ #[rawInt pos.line, rawInt pos.col, .ref c']))) c' (CodeO c' (X.env.qual ++ "<lambda>"))) := fun b o e n => by
      rw [upd_ne (ne_of_none e nC), upd_ne (fun z => n ps (Option.some.inj (e.symm.trans (by rw [z]; exact hP))))]
      exact e
    have eL : (ps ++ #[rawInt pos.line, rawInt pos.col, .ref c']).toList = ps.toList ++ [rawInt pos.line, rawInt pos.col, .ref c'] := by simp
    refine h h1.objs.size c' doc ((X.mg "__name__").getD .none) ctv _ _ I1 eN (fun p hp => ?_) (fun b o e n => ⟨Heap.get?_push_of_some _ (hx b o (nPb b n) e), ?_⟩) (Heap.get?_push_size _ rfl) ?_ (out _ hz) upd_same
    · by_cases hb : p.1 = P
      · rw [hu p hp hb, hb]
        refine ⟨_, by rw [upd_ne (ne_of_none hP nC), upd_same], by rw [eL]; exact PySem.TriplesOk_snoc _ _ _ _ ht, fun p' cv hcv => ?_⟩
        rw [eL] at hcv
        rcases among_app _ ht hcv with z | z
        · obtain ⟨c0, e1, e2⟩ := ha p' cv z
          exact ⟨c0, e1, eN _ _ e2 codeO_ne⟩
        · exact ⟨c', z, upd_same⟩
      · obtain ⟨ps', a1, a2, a3⟩ := hT p hp
        refine ⟨ps', by rw [upd_ne (ne_of_none a1 nC), upd_ne hb]; exact a1, a2, fun p' cv hcv => ?_⟩
        obtain ⟨c0, e1, e2⟩ := a3 p' cv hcv
        exact ⟨c0, e1, eN _ _ e2 codeO_ne⟩
    · rw [upd_ne (fun z => Nat.lt_irrefl _ (Nat.lt_of_lt_of_le (Heap.lt_size e) (by rw [z]; exact hge))), upd_ne (nPb b n)]
      exact n
    · rw [upd_ne (Nat.ne_of_gt hlt), upd_ne (Nat.ne_of_gt (Nat.lt_of_lt_of_le (Heap.lt_size oP) hz))]
      exact I.hok.fresh hz
  | some cv =>
    obtain ⟨c', e, hco⟩ := ha pos cv hc
    subst e
    refine PySem.W.kdv_makeTailHit (mg := X.mg) (c := c) (P := P) (ps := ps) (closure_ok hfree) I.ok.glob (I.mod.glob.keeps I.bk) hcode (TB.code.keeps I.bk) oP ht hc bP fun ctv doc h1 tk hx hz => ?_
    have I1 : Inv X pins σ H { s with heap := h1.push { cls := .type "function", data := .func (lmFn (X.env.qual ++ "<lambda>") params body scope (cloFrom X.env.cells scope.names []) dV doc ((X.mg "__name__").getD .none) c' ctv) }, toks := tk } :=
      I.kept fun b o e => Heap.get?_push_of_some _ (hx b o e)
    exact h h1.objs.size c' doc ((X.mg "__name__").getD .none) ctv H _ I1 (ExtN.refl H) hT (fun b o e n => ⟨Heap.get?_push_of_some _ (hx b o e), n⟩) (Heap.get?_push_size _ rfl) (I.hok.fresh hz) (out _ hz) hco
/-- a lambda stands at f, called without arguments it binds bs -/
def LamAt (h : Heap) (H : Hp) (fr : List Addr) (f : Addr) (FD : FuncData) (bs : List (Str × Value)) : Prop :=
  h.get? f = some { cls := .type "function", data := .func FD } ∧ H f = none ∧ f ∉ fr ∧ ∀ s2 : Shared, (∀ b o, h.get? b = some o → H b = none → b ∉ fr → s2.heap.get? b = some o) → BindsTo s2 FD ⟨[], []⟩ bs
/-- what the making leaves -/
def Made (X : Cx) (pins : List (Addr × Obj)) (σ : L2.St) (H : Hp) (T : List (Addr × Str)) (params : Arguments) (body : Expr) (scope : Scope) (own : List Str) (Q : Value → Shared → Prop) : Prop :=
  ∀ (f c' : Addr) (dV doc pm ctv : Value) (bs : List (Str × Value)) (H1 : Hp) (s' : Shared), Inv X pins σ H1 s' → ExtN H H1 → Tabs T H1 → bs.map (·.1) = own →
    LamAt s'.heap H1 (frs X.stack) f (lmFn (X.env.qual ++ "<lambda>") params body scope (cloFrom X.env.cells scope.names []) dV doc pm c' ctv) bs → H1 c' = some (CodeO c' (X.env.qual ++ "<lambda>")) → Q (.ref f) s'
theorem lm_make0 {T : List (Addr × Str)} {c P : Addr} {params : Arguments} {body : Expr} {scope : Scope} {pos : Pos} {E : Value → Shared → Prop} {Q : Value → Shared → Prop} (I : Inv X pins σ H s) (TB : TabB X.base X.mg c P) (hcode : X.env.code = .ref c)
    (hm : (P, X.env.qual ++ "<lambda>") ∈ T) (hu : ∀ p ∈ T, p.1 = P → p.2 = X.env.qual ++ "<lambda>") (hT : Tabs T H) (L : LmS X.N X.env.scope scope []) (hdef : defaultsOf params X.env = ([], []))
    (hbind : ∀ (q : Str) (cl : List (Str × Addr)) (doc pm ctv : Value) (c' : Addr), bindArgs (lmFn q params body scope cl .none doc pm c' ctv) ⟨[], []⟩ = pure []) (h : Made X pins σ H T params body scope [] Q) :
    wpAny (model X.prog X.w) X.A (eval (.Lambda params body scope pos) X.env) Q E s := by
  refine PySem.W.kla_eval hdef ?_
  rw [makeFunction_eq]
  simp only [List.zip_nil_right, List.filterMap_nil, List.isEmpty_nil, if_true, pure_bind]
  exact lm_tail I TB hcode hm hu hT (L.has I.ok) fun f c' doc pm ctv H1 s' I1 eN T1 kp hf hfn hfr hco => h f c' .none doc pm ctv [] H1 s' I1 eN T1 rfl ⟨hf, hfn, hfr, fun s2 _ => .of_eq (hbind _ _ _ _ _ _)⟩ hco
theorem lm_make1 {T : List (Addr × Str)} {c P : Addr} {params : Arguments} {body : Expr} {scope : Scope} {pos pd : Pos} {E : Value → Shared → Prop} {Q : Value → Shared → Prop} {n : Str} {z : Int} {kd : Nat} (I : Inv X pins σ H s) (TB : TabB X.base X.mg c P) (hcode : X.env.code = .ref c)
    (hm : (P, X.env.qual ++ "<lambda>") ∈ T) (hu : ∀ p ∈ T, p.1 = P → p.2 = X.env.qual ++ "<lambda>") (hT : Tabs T H) (L : LmS X.N X.env.scope scope [n]) (hd : params.defaults = [.Constant (.int z) kd pd]) (hk0 : params.kw_defaults = [])
    (hbind : ∀ (q : Str) (cl : List (Str × Addr)) (dV doc pm ctv u : Value) (c' : Addr), ∃ k : Option (Array Value) → Sem (List (Str × Value)), bindArgs (lmFn q params body scope cl dV doc pm c' ctv) ⟨[], []⟩ = seqItems? dV >>= k ∧ k (some [u].toArray) = pure [(n, u)])
    (h : Made X pins σ H T params body scope [n] Q) : wpAny (model X.prog X.w) X.A (eval (.Lambda params body scope pos) X.env) Q E s := by
  refine PySem.W.kdv_lam (by rw [hd]; rfl) hk0 ?_
  rw [hd]
  refine PySem.W.kdv_all1 (thn ((show PE X (.Constant (.int z) kd pd) (tC (.int z)) from pe_int).run pins s σ H (fun v H1 => v = .int z ∧ H1 = H) I ⟨rfl, rfl⟩) fun u s1 ⟨v, H1, I1, r1, q1⟩ => PySem.W.kdv_all0 ?_)
  obtain ⟨ev, eH⟩ := q1
  subst ev eH
  rw [makeFunction_eq]
  simp only [List.zip_nil_right, List.filterMap_nil, List.isEmpty_nil, if_true, pure_bind, List.isEmpty_cons, Bool.false_eq_true, if_false]
  refine wpAny_bind (wpAny_newTextTuple ?_)
  have I2 : Inv X pins σ H1 { s1 with heap := s1.heap.push (PySem.W.kdv_tup [u]) } := I1.kept (t' := s1.toks) fun b o e => Heap.get?_push_of_some _ e
  have ot : (s1.heap.push (PySem.W.kdv_tup [u])).get? s1.heap.objs.size = some (PySem.W.kdv_tup [u]) := Heap.get?_push_size _ rfl
  have nt : H1 s1.heap.objs.size = none := I1.hok.fresh (Nat.le_refl _)
  have tf : s1.heap.objs.size ∉ frs X.stack := fun hz => by
    rcases List.mem_cons.mp (I1.stkSub _ hz) with e | e
    · exact absurd I1.lt (by rw [← e]; exact Nat.lt_irrefl _)
    · exact I1.nofs (Nat.le_refl _) e
  refine lm_tail I2 TB hcode hm hu hT (L.has I.ok) fun f c' doc pm ctv H2 s' I3 eN T1 kp hf hfn hfr hco => h f c' (.ref s1.heap.objs.size) doc pm ctv [(n, u)] H2 s' I3 eN T1 rfl ⟨hf, hfn, hfr, fun s2 k2 => ?_⟩ hco
  obtain ⟨q1, q2⟩ := kp _ _ ot nt
  obtain ⟨k, e1, e2⟩ := hbind (X.env.qual ++ "<lambda>") (cloFrom X.env.cells scope.names []) (.ref s1.heap.objs.size) doc pm ctv u c'
  exact BindsTo.of_defaults rfl (k2 _ _ q1 q2 tf) rfl e1 e2
end
section
variable {X : Cx} {pins : List (Addr × Obj)} {σ : L2.St} {H HZ : Hp} {s s1 : Shared}
/-- the lambda's body begins: the maker's names are seen through their cells -/
theorem lm_start {A : Around} {outer : List Env} {E : XK} {scope : Scope} {own : List Str} {f c' : Addr} {g1 : Heap} {tk : Nat} {bs : List (Str × Value)} (I : Inv X pins σ H s) (L : LmS X.N X.env.scope scope own) (e0 : Env0 X.prog X.w X.K X.mg X.base A outer s1 HZ) (hd : A.handled = none)
    (un : Un (frs X.stack) [] H HZ s.heap s1.heap) (hns : g1.Ns s1.heap.objs.size fun y => bs.reverse.lookup y) (kp : ∀ b o, s1.heap.get? b = some o → g1.get? b = some o) : Inv (lamCx X A outer s1 HZ E scope f c') [] σ HZ { s1 with heap := g1, toks := tk } := by
  have fr := L.has I.ok
  have back : ∀ {y c}, (cloFrom X.env.cells scope.names []).lookup y = some c → X.env.cells.lookup y = some c := fun {y c} e => by
    rcases cloFrom_mem (PySem.mem_of_lookup e) with z | ⟨z1, z2⟩
    · cases z
    · obtain ⟨c1, q⟩ := fr _ z1 rfl
      have q : X.env.cells.lookup y = some c1 := q
      rw [q] at z2
      have z2 : c = c1 := z2
      rw [z2]
      exact q
  have seen : ∀ {y}, scope.names.lookup y = some .free → ∃ c, (cloFrom X.env.cells scope.names []).lookup y = some c := fun {y} e => by
    have e : (y, NameKind.free) ∈ scope.names := PySem.mem_of_lookup e
    exact mem_lookup (cloFrom_has (cells := X.env.cells) (acc := []) e)
  have cells : ∀ {c : Addr} {v : Option Value}, H c = none → s.heap.IsCell c v → g1.IsCell c v := fun {c v} n ⟨o, e1, e2⟩ => by
    obtain ⟨sl, q⟩ := un.any e1 n (by simp)
    exact ⟨_, kp _ _ q, e2⟩
  have ex0 : ∀ b : Addr, b ∉ (lamCx X A outer s1 HZ E scope f c').ex := fun b z => nomatch (show b ∈ ([] : List Addr) from z)
  refine ⟨⟨e0.mod, L.kind, rfl, rfl, Nat.le_refl _, fun y z c e1 e2 => I.ok.inj y z c (back e1) (back e2), fun y hy => ?_, fun y c z _ => ?_, fun _ => hd, Around.frames_deeper e0.frames, .inr ⟨rfl, rfl⟩, fun b z => absurd z (ex0 b), e0.bs, e0.bsz,
      fun b _ _ => ex0 b, fun b z => absurd z (ex0 b), e0.funs, e0.frf⟩,
    rfl, e0.bare, Un.kept kp, ⟨_, hns, fun i y v e1 e2 e3 => ?_⟩, fun y c e => ?_, e0.hok.fresh (Nat.le_refl _), fun y c e => ?_, fun q hq => (nomatch (show q ∈ ([] : List (Addr × Obj)) ++ [] from hq)), e0.hok.kept kp, I.len⟩
  · have hy : scope.names.lookup y = some .cell ∨ scope.names.lookup y = some .free := hy
    rcases hy with hy | hy
    · exact absurd rfl (L.noc _ (PySem.mem_of_lookup hy))
    · exact seen hy
  · exact Bool.noConfusion (show false = true from z)
  · have e3 : Vis scope y := e3
    rcases e3 with k | k | k
    · exact absurd (List.mem_of_getElem? e1) (L.loc _ (PySem.mem_of_lookup k) rfl)
    · exact absurd rfl (L.noc _ (PySem.mem_of_lookup k))
    · obtain ⟨m, hn, hl⟩ := I.loc
      have vis : Vis X.env.scope y := (L.free _ (PySem.mem_of_lookup k) rfl).elim (fun k => .inr (.inl k)) fun k => .inr (.inr k)
      obtain ⟨u, r, q⟩ := hl i y v e1 e2 vis
      obtain ⟨c2, h2⟩ := seen k
      refine ⟨u, r, .inr ⟨.inr k, c2, h2, ?_⟩⟩
      rcases q with ⟨k1, _⟩ | ⟨_, c3, e4, z⟩
      · have k1 : X.env.scope.names.lookup y = some .local := k1
        rcases L.free _ (PySem.mem_of_lookup k) rfl with k2 | k2
        · have k2 : X.env.scope.names.lookup y = some .cell := k2
          rw [k2] at k1
          cases k1
        · have k2 : X.env.scope.names.lookup y = some .free := k2
          rw [k2] at k1
          cases k1
      · rw [back h2] at e4
        cases e4
        exact cells (I.freeC y _ (back h2)) z
  · obtain ⟨v, z⟩ := I.cell y c (back e)
    exact ⟨v, cells (I.freeC y c (back e)) z⟩
  · obtain ⟨v, o, e1, e2⟩ := I.cell y c (back e)
    exact un.free c o e1 (I.freeC y c (back e)) (by simp)
/-- the callee's context: entered at s from X -/
abbrev gCx (X : Cx) (Ng : List Str) (x : Str) (sg : Scope) (g : Addr) (cdg : Value) (s : Shared) (H : Hp) : Cx := cxOf C8.CX0 X.prog X.w X.K X.mg X.base Ng x sg g cdg X.A X.stack s H C8.E0
/-- a(), in the def that got the lambda -/
theorem pe_actD {Ng : List Str} {x a : Str} {sg : Scope} {g f c' : Addr} {cdg dV doc pm ctv : Value} {params : Arguments} {body : Expr} {scope : Scope} {own : List Str} {bs : List (Str × Value)} {k i : Nat} {pn : List (Addr × Obj)} {xe : Value → Shared → Prop} {W : WX} {E : XK} {tb : TE} {p1 p2 : Pos}
    (I : Inv X pins σ H s) (L : LmS X.N X.env.scope scope own) (ho : bs.map (·.1) = own) (la : LamAt s.heap H (frs X.stack) f (lmFn (X.env.qual ++ "<lambda>") params body scope (cloFrom X.env.cells scope.names []) dV doc pm c' ctv) bs)
    (tk : Takes ((gCx X Ng x sg g cdg s H).tr pn xe) W) (hr : Room (k + 1) (X.A.deeper (envOfC x sg s.heap.objs.size g cdg)))
    (hbody : ∀ (A : Around) (outer : List Env) (s : Shared) (H : Hp), Room k (A.deeper (lamEnv X scope s.heap.objs.size f c')) → PE (lamCx X A outer s H E scope f c') body tb)
    (hN : Ng[i]? = some a) (hv : Vis sg a) (hd : (a == ("__debug__" : Str)) = false := by decide) (hcd : (a == ("__classdict__" : Str)) = false := by decide) :
    PE ((gCx X Ng x sg g cdg s H).tr pn xe) (.Call (.Name a p1) [] [] p2) (fun σZ HZ Q => σZ[i]? = some (some (.ref f)) ∧ HZ c' = some (CodeO c' (X.env.qual ++ "<lambda>")) ∧ (∀ cls d H', E cls d H' → W cls d σZ H') ∧ tb σ HZ Q) := by
  refine ⟨fun pinsZ sZ σZ HZ Q IZ h => ?_⟩
  obtain ⟨hs, hc, hW, ht⟩ := h
  obtain ⟨hf, hfn, hfr, hbi⟩ := la
  refine wpAny_Call_Name_kw (thn ((pe_var (pos := p1) (i := i) hN hv hd hcd).run pinsZ sZ σZ HZ (fun v H1 => v = .ref f ∧ H1 = HZ) IZ ⟨.ref f, hs, rfl, rfl⟩) fun u s1 ⟨v, H1, I1, r1, q1⟩ => ?_)
  obtain ⟨ev, eH⟩ := q1
  subst ev eH
  obtain rfl : u = Value.ref f := r1
  have kept : ∀ b o, s.heap.get? b = some o → H b = none → b ∉ frs X.stack → s1.heap.get? b = some o := fun b o e n nf => I1.base.keep b o e n nf (fun z => nomatch (show b ∈ ([] : List Addr) from z))
  have of1 := kept f _ hf hfn hfr
  refine PySem.W.callWith_F0 ⟨_, _, _, _, of1⟩ ?_
  have un : Un (frs X.stack) [] H H1 s.heap s1.heap := I1.base
  obtain ⟨⟨oc, vs, t, hoc, hdc, hvc⟩, _, _⟩ := I1.hok c' _ hc
  have rc : codeAny (model X.prog X.w) (X.A.deeper (envOfC x sg s.heap.objs.size g cdg)) (.call (.ref f) ⟨[], []⟩) (CR (L2.CX X.prog X.w) (envOfC x sg s.heap.objs.size g cdg :: X.stack) X.prog X.w H1 s1 Q E) s1 := by
    refine PySem.W.kla_callFunE hr.depth of1 rfl L.co L.gen rfl ⟨c', oc, vs, t, rfl, hoc, hdc, hvc⟩ ?_
    refine hbi s1 kept _ _ _ _ (wpAny_newFunctionEnv L.noc (fun y hy => L.par _ (by rw [← ho]; exact List.mem_map_of_mem hy)) (fun g1 hns hsb => ⟨I1.nolimit.fresh _ hsb, ?_⟩) L.kind)
    show codeAny _ _ (.expr body (lamEnv X scope s1.heap.objs.size f c')) _ _
    have kp : ∀ b o, s1.heap.get? b = some o → g1.get? b = some o := fun b o e => hsb.extBut b o (Nat.ne_of_lt (Heap.lt_size e)) (Heap.get?_push_of_some _ e)
    have J := lm_start (A := X.A.deeper (envOfC x sg s.heap.objs.size g cdg)) (outer := envOfC x sg s.heap.objs.size g cdg :: X.stack) (E := E) (f := f) (c' := c') (tk := s1.toks + bs.length) I L I1.env0 hr.hd un hns kp
    refine PySem.W.kla_codeExpr (wpAny_mono ((hbody _ _ s1 H1 (hr.deeper _)).run [] _ _ H1 Q J ht) (fun v s' hq => ?_) fun e s' hq => hq)
    obtain ⟨w', H', J', rv, q⟩ := hq
    exact ⟨w', H', J'.os, J'.bare, J'.base, J'.hok, rv, q⟩
  refine wpAny_call (codeAny_mono rc fun r s' hq => ?_)
  cases r with
  | error e => exact tk e s' (XE.of_call I1 hW hq)
  | ok fl =>
    cases fl with
    | ret u => exact I1.after hq
    | next => exact False.elim hq
    | brk => exact False.elim hq
    | cont => exact False.elim hq
end
/-- the def that calls what it got: a calls it, W the wish of its place; TT: what it makes of the lambda's reading -/
def Gives (X : Cx) (Ng : List Str) (x : Str) (sg : Scope) (g : Addr) (cdg : Value) (bg : List Stmt) (a : Str) (q : Str) (TT : (XK → Hp → VK → Prop) → Hp → VK → Prop) : Prop :=
  ∀ (f c' : Addr) (s : Shared) (H : Hp) (Q : VK) (tl : XK → Hp → VK → Prop),
    (∀ (W : WX) (pn : List (Addr × Obj)) (xe : Value → Shared → Prop) (E : XK) (p1 p2 : Pos), Takes ((gCx X Ng x sg g cdg s H).tr pn xe) W →
      PE ((gCx X Ng x sg g cdg s H).tr pn xe) (.Call (.Name a p1) [] [] p2) (fun σZ HZ Q => σZ[0]? = some (some (.ref f)) ∧ HZ c' = some (CodeO c' q) ∧ (∀ cls d H', E cls d H' → W cls d σZ H') ∧ tl E HZ Q)) →
    H c' = some (CodeO c' q) → TT tl H Q → ∃ t, PSs (gCx X Ng x sg g cdg s H).nox bg t ∧ t { nx := fun _ H' => Q .non H', rt := Q } (L2.start Ng [.ref f]) H
/-- the lambda expression, made -/
def LamPE (X : Cx) (T : List (Addr × Str)) (params : Arguments) (body : Expr) (scope : Scope) (own : List Str) (lpos : Pos) : Prop :=
  ∀ (pins : List (Addr × Obj)) (σ : L2.St) (H : Hp) (s : Shared) (E Q : Value → Shared → Prop), Inv X pins σ H s → Tabs T H → Made X pins σ H T params body scope own (Q) → wpAny (model X.prog X.w) X.A (eval (.Lambda params body scope lpos) X.env) Q E s
section
variable {X : Cx}
/-- x(lambda ..: body) -/
theorem pe_lamD {T : List (Addr × Str)} {TT : (XK → Hp → VK → Prop) → Hp → VK → Prop} {x a : Str} {g : Addr} {k : Nat} {pg : Arguments} {bg : List Stmt} {sg : Scope} {dV kV doc pm cdv ct oc : Value} {an od : Option Addr} {osl : Array (Option Value)} {Ng : List Str}
    {params : Arguments} {body : Expr} {scope : Scope} {own : List Str} {t : XK → TE} {p lpos pos : Pos} (hg : Gl X x) (hm : X.mg x = some (.ref g)) (hk : PySem.W.keepIn X.K (.ref g) = true)
    (lk : X.K.lookup g = some ⟨oc, od, .func (PySem.W.fnOf x x pg bg sg dV kV doc pm an cdv ct), osl⟩) (hcg : PySem.W.codeIn X.K cdv x = true) (hb : L2.Binds X.K (PySem.W.fnOf x x pg bg sg dV kV doc pm an cdv ct) [a] []) (Sg : FnScope Ng [a] sg) (hNg : Ng[0]? = some a) (hva : Vis sg a)
    (hG : Gives X Ng x sg g cdv bg a (X.env.qual ++ "<lambda>") TT) (hr : Room (k + 2) X.A) (L : LmS X.N X.env.scope scope own) (hmk : LamPE X T params body scope own lpos)
    (hbody : ∀ (A : Around) (outer : List Env) (s : Shared) (H : Hp) (E : XK) (f c' : Addr), Room k (A.deeper (lamEnv X scope s.heap.objs.size f c')) → PE (lamCx X A outer s H E scope f c') body (t E))
    (hdb : (x == ("__debug__" : Str)) = false := by decide) (hd : (a == ("__debug__" : Str)) = false := by decide) (hcd : (a == ("__classdict__" : Str)) = false := by decide) :
    PE X (.Call (.Name x p) [.Lambda params body scope lpos] [] pos) (tLam T TT t) := by
  refine ⟨fun pins s σ H Q I h => ?_⟩
  obtain ⟨hT, h⟩ := h
  refine wpAny_Call_Name_kw (ld_glob I hg hm ?_ hdb)
  refine PySem.W.callWith_K (h₀ := X.base) I.ok.mod.kin hk ?_ (by rfl) (by rfl)
  show wpAny _ _ (spliced ((false, eval (.Lambda params body scope lpos) X.env) :: backTo pos (starEach [] X.env))) _ _ s
  refine Calls.spliced_cons (hmk pins σ H s _ _ I hT fun f c' dV' doc' pm' ctv bs H1 s' I1 eN T1 ho la hco => ?_)
  refine Calls.spliced_nil ⟨I1.kIn, ?_⟩
  have rc : codeAny (model X.prog X.w) X.A (.call (.ref g) ⟨[.ref f], []⟩) (CR C8.CX0 X.stack X.prog X.w H1 s' Q C8.E0) s' := by
    refine run_ofS (N := Ng) (ps := [a]) (us := [.ref f]) (vs := [.ref f]) lk hcg Sg hr I1.env0 (hb s' [.ref f] I1.kIn rfl) (.cons rfl .nil) rfl fun hr2 => ?_
    obtain ⟨t', ht', hq'⟩ := hG f c' s' H1 Q (fun E H' Q' => t E σ H' Q') (fun W pn xe E p1 p2 tk => pe_actD (i := 0) I1 L ho la tk hr2 (fun A outer s H hr3 => hbody A outer s H E f c' hr3) hNg hva hd hcd) hco (h H1 eN T1)
    exact ⟨t', ht'.nox, hq'⟩
  refine wpAny_call (codeAny_mono rc fun r s2 hq => ?_)
  cases r with
  | error e => exact (show False from hq).elim
  | ok fl =>
    cases fl with
    | ret u => exact I1.after hq
    | next => exact False.elim hq
    | brk => exact False.elim hq
    | cont => exact False.elim hq
end
end Lm
set_option Elab.async false
set_option linter.all false
set_option maxRecDepth 100000
set_option maxHeartbeats 1000000
/-! Sd: xs.count(y) of flat things; the def that asks a deed for its answer or its error -/
namespace Sd
open PySem PySem.Spec PyProof.Rows L2 LamX Xo
section
variable {X : Cx}
theorem count_eq {y : V} : ∀ {ys : List V} {its : List Value}, Vals ys its → ys.all flatV = true → its.countP (eqU y) = ys.countP fun z => eqV z y
  | [], _, .nil, _ => rfl
  | z :: ys, _ :: _, .cons r rr, f => by
    rw [List.all_cons, Bool.and_eq_true] at f
    rw [List.countP_cons, List.countP_cons, count_eq rr f.2, eqU_of r f.1]
def rCountF (K : PySem.W.Frag) : V → List V → Hp → VK → Prop := fun x xs H Q => ∃ (a : Addr) (ys : List V) (y : V), x = V.ref a ∧ xs = [y] ∧ SqL K H a ys ∧ flatV y = true ∧ ys.all flatV = true ∧ Q (.int ((ys.countP fun z => eqV z y) : Nat)) H
theorem mt_countF : MtR X "list.count" (rCountF X.K) := by
  intro pins s σ H x xs v us Q I rx rxs h
  obtain ⟨a, ys, y, rfl, rfl, hs, fy, fys, q⟩ := h
  cases rx
  obtain ⟨uy, rfl, ry⟩ := rxs.one
  obtain ⟨its, rv, ⟨⟨cls, dd, data, sl⟩, n, ho, hc, hdn, hd⟩, hlen⟩ := I.list hs
  dsimp only at hc hd
  subst hc hd
  refine call_meets F.slot_list_count ⟨_, ho, rfl⟩ F.entry_list_count (F.args_list_count_2 _ _) (SeqAt.list_countAt a its.toArray n dd sl uy (eqU y)) ⟨ho, fun u hu => mem_eqAt ry fy rv fys u (by simpa using hu), ?_⟩
  refine ⟨.int ((ys.countP fun z => eqV z y) : Nat), H, I.tok _, ⟨s.toks, ?_⟩, q⟩
  show Value.int ((its.toArray.toList.countP (eqU y) : Nat) : Int) s.toks = _
  rw [show its.toArray.toList.countP (eqU y) = ys.countP fun z => eqV z y from count_eq rv fys]
end
end Sd
set_option Elab.async false
set_option linter.all false
set_option maxRecDepth 100000
set_option maxHeartbeats 1000000
/-! Gd: defs that are run where no repr is under way; repr of data; the law's start told so -/
namespace Gd
open PySem PySem.Spec PyProof.Rows L2 LamX
/-! ### the start of a law -/
section
variable {P : Program} {w : World} {K : PySem.W.Frag} {mg mb : Str → Option Value} {CX : CXT} {fa a : Addr} {cs : List (Addr × Addr)} {s1 : Shared} {vs : List Value} {ns : List Int}
/-- the tracked addresses at the start, and what they hold -/
structure Begin (P : Program) (w : World) (K : PySem.W.Frag) (cs : List (Addr × Addr)) (a : Addr) (ns : List Int) (h : Heap) (tr : List Addr) (H : Hp) : Prop where
  out : ∀ b, b ∉ tr → H b = none
  inn : ∀ b, b ∈ tr → K.lookup b = none ∧ ∃ o, h.get? b = some o ∧ ((∃ vs n, o.data = .seq vs n) ∨ o.data = .fields #[])
  tab : ∀ p ∈ cs, p.2 ∈ tr ∧ H p.2 = some (.tbl #[])
  row : SqL K H a (ns.map V.int)
  two : ∀ b, b ∈ tr → (∃ p ∈ cs, p.2 = b) ∨ ((¬ ∃ p ∈ cs, p.2 = b) ∧ ∃ o u, H b = some (.frz o u))
  hok : HOk P w H h
theorem begins (ka : K.In s1.heap) (tabs : ∀ p ∈ cs, s1.heap.get? p.2 = some { cls := .none, data := .fields #[] }) (ntK : ∀ p ∈ cs, K.lookup p.2 = none) (ha : s1.heap.get? a = some { cls := .type "list", data := .seq vs.toArray }) (hi : IntsAre vs ns) (hl : ns.length ≤ sizeLine) :
    ∃ tr H, Begin P w K cs a ns s1.heap tr H := by
  have rv := vals_ints hi
  have aT : ¬ ∃ p ∈ cs, p.2 = a := fun ⟨p, hp, e⟩ => by
    have q := tabs p hp
    rw [e, ha] at q
    have z := congrArg Obj.data (Option.some.inj q)
    cases z
  have mT : ∀ {b}, b ∈ cs.map (·.2) → ∃ p ∈ cs, p.2 = b := fun {b} hb => List.mem_map.mp hb
  have tM : ∀ p ∈ cs, p.2 ∈ cs.map (·.2) := fun p hp => List.mem_map.mpr ⟨p, hp, rfl⟩
  have tO : ∀ b, b ∈ cs.map (·.2) → K.lookup b = none ∧ ∃ o, s1.heap.get? b = some o ∧ ((∃ vs n, o.data = .seq vs n) ∨ o.data = .fields #[]) := fun b hb => by
    obtain ⟨p, hp, rfl⟩ := mT hb
    exact ⟨ntK p hp, _, tabs p hp, .inr rfl⟩
  cases hk : K.lookup a with
  | some o =>
    have e := ka a o hk
    rw [ha] at e
    cases e
    refine ⟨cs.map (·.2), fun b => if b ∈ cs.map (·.2) then some (.tbl #[]) else none, fun b hb => if_neg hb, tO, fun p hp => ⟨tM p hp, if_pos (tM p hp)⟩,
      .inr ⟨_, vs.toArray, _, hk, rfl, rfl, rfl, by rw [List.size_toArray, hi.length]; exact hl, by simpa using rv⟩, fun b hb => .inl (mT hb), fun b u z => ?_⟩
    by_cases hb : b ∈ cs.map (·.2)
    · have z := (if_pos hb).symm.trans z
      cases z
      obtain ⟨p, hp, rfl⟩ := mT hb
      exact tabs p hp
    · have z := (if_neg hb).symm.trans z
      cases z
  | none =>
    have na : a ∉ cs.map (·.2) := fun z => aT (mT z)
    refine ⟨a :: cs.map (·.2), fun b => if b = a then some (.frz { cls := .type "list", data := .seq vs.toArray } (.lst (ns.map V.int))) else if b ∈ cs.map (·.2) then some (.tbl #[]) else none, fun b hb => ?_, fun b hb => ?_, fun p hp => ?_,
      .inl (.inr ⟨{ cls := .type "list", data := .seq vs.toArray }, if_pos rfl⟩), fun b hb => ?_, fun b u z => ?_⟩
    · rw [List.mem_cons] at hb
      exact (if_neg fun z => hb (.inl z)).trans (if_neg fun z => hb (.inr z))
    · rcases List.mem_cons.mp hb with rfl | hb
      · exact ⟨hk, _, ha, .inl ⟨_, _, rfl⟩⟩
      · exact tO b hb
    · have np : p.2 ≠ a := fun z => aT ⟨p, hp, z⟩
      exact ⟨List.mem_cons_of_mem _ (tM p hp), (if_neg np).trans (if_pos (tM p hp))⟩
    · rcases List.mem_cons.mp hb with rfl | hb
      · exact .inr ⟨aT, _, _, if_pos rfl⟩
      · exact .inl (mT hb)
    · by_cases hb : b = a
      · have z := (if_pos hb).symm.trans z
        cases z
        rw [hb]
        exact ⟨ha, by rw [List.length_map]; exact hl, vs, _, rv, ha⟩
      · have z := (if_neg hb).symm.trans z
        by_cases hb2 : b ∈ cs.map (·.2)
        · have z := (if_pos hb2).symm.trans z
          cases z
          obtain ⟨p, hp, rfl⟩ := mT hb2
          exact tabs p hp
        · have z := (if_neg hb2).symm.trans z
          cases z
/-- the law's call, from its run where no repr is under way -/
theorem start_run (ka : K.In s1.heap) (gl : s1.heap.Ns mainGlobals mg) (bt : s1.heap.Ns builtinsNs mb) (bb : ∀ x : Str, x ≠ "__name__" → mb x = bootBuiltins x) (lim : s1.heap.NoLimit) (ng : s1.gens = #[])
    (tabs : ∀ p ∈ cs, s1.heap.get? p.2 = some { cls := .none, data := .fields #[] }) (ntK : ∀ p ∈ cs, K.lookup p.2 = none) (cod : ∀ p ∈ cs, PySem.W.CodeHd s1.heap p.1 p.2)
    (bmain : ∃ (bm : Addr) (ob : Obj), mg "__builtins__" = some (.ref bm) ∧ bm ≠ builtinsNs ∧ s1.heap.get? bm = some ob ∧ ob.cls = .type "module" ∧ ob.dict = some builtinsNs ∧ ob.data = .plain)
    (ha : s1.heap.get? a = some { cls := .type "list", data := .seq vs.toArray }) (hi : IntsAre vs ns) (hl : ns.length ≤ sizeLine)
    (run : ∀ (base : Heap) (H : Hp), K.In base → base.Ns mainGlobals mg → (∀ p ∈ cs, TabB base mg p.1 p.2) → (∀ p ∈ cs, H p.2 = some (.tbl #[])) → SqL K H a (ns.map V.int) → Env0 P w K mg base callerA [] s1 H →
      codeAny (model P w) callerA (.call (.ref fa) ⟨[.ref a], []⟩) (CR CX [] P w H s1 (fun v _ => v = .bl true) fun _ _ _ => False) s1)
    (no : ∀ H e s', CX [] H s1 (fun _ _ _ => False) e s' → False) :
    codeAny (model P w) callerA (.call (.ref fa) ⟨[.ref a], []⟩) (fun r s' => r = .ok (.ret (.bool true)) ∧ OldK s1.heap s'.heap ∧ s'.os = s1.os ∧ AllBare s'.gens) s1 := by
  obtain ⟨tr, H, B⟩ := begins (P := P) (w := w) ka tabs ntK ha hi hl
  -- the ground: what is not tracked
  have kept : ∀ {b : Addr} {o : Obj}, s1.heap.get? b = some o → (∀ vs n, o.data ≠ .seq vs n) → o.data ≠ .fields #[] → (PySem.W.hideAll s1.heap tr).get? b = some o := fun {b o} e h1 h2 => PySem.W.hideAll_get tr e fun hb => by
    obtain ⟨_, o', e', q⟩ := B.inn b hb
    rw [e] at e'
    cases e'
    rcases q with ⟨vs, n, q⟩ | q
    · exact h1 _ _ q
    · exact h2 q
  have kdict : ∀ {b : Addr} {m : Str → Option Value}, s1.heap.Ns b m → (PySem.W.hideAll s1.heap tr).Ns b m := fun {b m} ⟨o, es, ep, e, d, r⟩ => ⟨o, es, ep, kept e (fun vs n z => by rw [d] at z; cases z) (fun z => by rw [d] at z; cases z), d, r⟩
  have kb : K.In (PySem.W.hideAll s1.heap tr) := fun b o e => PySem.W.hideAll_get tr (ka b o e) fun hb => by
    rw [(B.inn b hb).1] at e
    cases e
  have md : L2.Mod K mg (PySem.W.hideAll s1.heap tr) := ⟨kb, kdict gl, ⟨mb, kdict bt, bb⟩, let ⟨mc, h1, h2⟩ := lim; ⟨mc, kdict h1, h2⟩⟩
  have tb : ∀ p ∈ cs, TabB (PySem.W.hideAll s1.heap tr) mg p.1 p.2 := fun p hp => by
    refine ⟨?_, ?_, fun z => ?_⟩
    · obtain ⟨o, us, file, tf, flags, tg, inF, text, tt, e1, r1, r2, rest⟩ := cod p hp
      obtain ⟨r3, _⟩ := id rest
      exact ⟨o, us, file, tf, flags, tg, inF, text, tt, kept e1 (fun vs n z => by rw [r2] at z; cases z) (fun z => by rw [r2] at z; cases z; simp at r3), r1, r2, rest⟩
    · obtain ⟨bm, ob, b1, b2, b3, b4, b5, b6⟩ := bmain
      refine ⟨bm, ob, b1, b2, fun q => ?_, fun q => ?_, kept b3 (fun vs n z => by rw [b6] at z; cases z) (fun z => by rw [b6] at z; cases z), b4, b5, b6⟩
      · obtain ⟨o, es, ep, e, d, _⟩ := gl
        rw [q, e] at b3
        cases b3
        rw [d] at b6
        cases b6
      · rw [q, tabs p hp] at b3
        cases b3
        cases b6
    · obtain ⟨o, es, ep, e, d, _⟩ := gl
      rw [z, tabs p hp] at e
      cases e
      cases d
  have e0 : Env0 P w K mg (PySem.W.hideAll s1.heap tr) callerA [] s1 H := by
    refine ⟨rfl, md, fun b o e => ⟨PySem.W.of_hideAll tr e, B.out b fun hb => ?_⟩, Nat.le_of_eq (PySem.W.hideAll_size _ _), trivial, fun b hb => (nomatch (show b ∈ ([] : List Addr) from hb)), B.hok, .of_eq ng⟩
    rw [PySem.W.hideAll_none tr hb] at e
    cases e
  refine codeAny_mono (run _ H kb (kdict gl) tb (fun p hp => (B.tab p hp).2) B.row e0) fun r s' h => ?_
  cases r with
  | error e => exact (no H e s' h).elim
  | ok fl =>
    cases fl with
    | next => exact False.elim h
    | brk => exact False.elim h
    | cont => exact False.elim h
    | ret u =>
      obtain ⟨v, H', hos, bare, un, hok', rv, ev⟩ := h
      have ev : v = .bl true := ev
      subst ev
      obtain rfl : u = Value.bool true := rv
      have same : ∀ b o, (¬ ∃ p ∈ cs, p.2 = b) → s1.heap.get? b = some o → s'.heap.get? b = some o := fun b o nb e => by
        by_cases hb : b ∈ tr
        · rcases B.two b hb with z | ⟨_, o1, u1, z⟩
          · exact absurd z nb
          · have q1 := (B.hok b _ z).1
            have q2 := (hok' b _ (un.frzs b o1 u1 z)).1
            rw [e] at q1
            cases q1
            exact q2
        · exact un.keep b o e (B.out b hb) (fun z => nomatch (show b ∈ ([] : List Addr) from z)) (by simp)
      have grew : ∀ p ∈ cs, ∃ more : Array Value, s'.heap.get? p.2 = some { cls := .none, data := .fields more } := fun p hp => by
        obtain ⟨more, z⟩ := un.tbls p.2 #[] (B.tab p hp).2
        exact ⟨_, hok' p.2 _ z⟩
      refine ⟨rfl, ⟨fun b o e => ?_, fun b o e => ?_⟩, hos, bare⟩
      · by_cases hb : ∃ p ∈ cs, p.2 = b
        · obtain ⟨p, hp, rfl⟩ := hb
          obtain ⟨more, hm⟩ := grew p hp
          rw [tabs p hp] at e
          cases e
          exact .inr (.inl ⟨((cod p hp).tab (tabs p hp)).isCodeTable, rfl, #[], more, rfl, by rw [Array.empty_append]; exact hm⟩)
        · exact .inl (same b o hb e)
      · by_cases hb : ∃ p ∈ cs, p.2 = b
        · obtain ⟨p, hp, rfl⟩ := hb
          obtain ⟨more, hm⟩ := grew p hp
          exact ⟨_, hm⟩
        · exact ⟨o, same b o hb e⟩
end
/-! ### defs that are run where no repr is under way -/
theorem deeper_guards (A : Around) (env : Env) : (A.deeper env).guards = A.guards := rfl
structure FnG (P : Program) (w : World) (K : PySem.W.Frag) (mg : Str → Option Value) (base : Heap) (k : Nat) (f : Addr) (fd : FuncData) (ps : List Str) (sp : Sp) : Prop where
  len : ∀ vs H Q E, sp vs H Q E → vs.length = ps.length
  run : ∀ (A : Around) (outer : List Env) (s : Shared) (H : Hp) (args : Args) (us : List Value) (vs : List V) (Q : VK) (E : XK), Room k A → A.guards = some [] → Env0 P w K mg base A outer s H → BindsTo s fd args (ps.zip us) → Vals vs us → sp vs H Q E →
    codeAny (model P w) A (.call (.ref f) args) (CR C8.CX0 outer P w H s Q E) s
section
variable {P : Program} {w : World} {K : PySem.W.Frag} {mg : Str → Option Value} {base : Heap}
theorem okG {x qual : Str} {st : Stmt} {f : Addr} {fd : FuncData} {N ps : List Str} {k : Nat} {sp : Sp} (F : Fun K x qual st f fd) (S : FnScope N ps (defScope st)) (len : ∀ vs H Q E, sp vs H Q E → vs.length = ps.length)
    (hbody : ∀ (cdv : Value) (A : Around) (outer : List Env) (s : Shared) (H : Hp) (vs : List V) (Q : VK) (E : XK), Room k (A.deeper (envOfC qual (defScope st) s.heap.objs.size f cdv)) → (A.deeper (envOfC qual (defScope st) s.heap.objs.size f cdv)).guards = some [] → sp vs H Q E →
      ∃ t, PSs (cxOf C8.CX0 P w K mg base N qual (defScope st) f cdv A outer s H E).nox (defBody st) t ∧ t { nx := fun _ H' => Q .non H', rt := Q } (L2.start N vs) H) : FnG P w K mg base (k + 1) f fd ps sp := by
  obtain ⟨oc, od, kV, doc, pm, an, cdv, ct, osl, rfl, lk, hcd⟩ := F.ex
  refine ⟨len, fun A outer s H args us vs Q E hr hgd e0 hb r h => run_ofS lk hcd S hr e0 hb r (len _ _ _ _ h) fun hr2 => ?_⟩
  obtain ⟨t, ht, q⟩ := hbody cdv A outer s H vs Q E hr2 hgd h
  exact ⟨t, ht.nox, q⟩
end
section
variable {X : Cx}
theorem pe_callG {k : Nat} {f : Addr} {fd : FuncData} {ps : List Str} {sp : Sp} {x : Str} {p pos : Pos} {e : Expr} {es : List Expr} {t : TA} (F : FnG X.prog X.w X.K X.mg X.base k f fd ps sp) (hr : Room k X.A) (hgd : X.A.guards = some []) (hg : Gl X x) (hm : X.mg x = some (.ref f)) (hk : PySem.W.keepIn X.K (.ref f) = true)
    (hb : Binds X.K fd ps []) (ha : PA X (e :: es) t) (hdb : (x == ("__debug__" : Str)) = false := by decide) (he : starEach (e :: es) X.env = (false, eval e X.env) :: starEach es X.env := by rfl)
    (hpl : (backTo pos (starEach es X.env)).any (·.1) = false := by rfl) : PE X (.Call (.Name x p) (e :: es) [] pos) (tCall sp [] C8.E0 t) := by
  refine ⟨fun pins s σ H Q I h => ?_⟩
  refine wpAny_Call_Name_kw (ld_glob I hg hm ?_ hdb)
  refine PySem.W.callWith_K (h₀ := X.base) I.ok.mod.kin hk (thn (ha.run pos pins s σ H _ I h) fun us s1 ⟨vs, H1, I1, r, q⟩ => ⟨I1.kIn, ?_⟩) he hpl
  have q : sp (vs ++ []) H1 Q C8.E0 := q
  rw [List.append_nil] at q
  have hl : us.length = ps.length := by rw [← r.length, F.len _ _ _ _ q]
  have hbt : BindsTo s1 fd ⟨us, []⟩ (ps.zip us) := by
    have z := hb s1 us I1.kIn (by rw [List.append_nil]; exact hl)
    rwa [List.append_nil] at z
  refine wpAny_call (codeAny_mono (F.run X.A X.stack s1 H1 ⟨us, []⟩ us vs Q C8.E0 hr hgd I1.env0 hbt r q) fun r' s' hq => ?_)
  cases r' with
  | error e => exact (show False from hq).elim
  | ok fl =>
    cases fl with
    | ret u => exact I1.after hq
    | next => exact False.elim hq
    | brk => exact False.elim hq
    | cont => exact False.elim hq
/-- repr of a list or tuple of data -/
def rRepr (K : PySem.W.Frag) : List V → Hp → VK → Prop := fun xs H Q => ∃ (a : Addr) (d : PyData), xs = [.ref a] ∧ Dp K H (.ref a) d ∧ d.showable = true ∧ d.hasDict = false ∧ d.depth ≤ 60 ∧ d.shown.length ≤ sizeLine ∧ Q (.str d.shown) H
theorem call_repr (hgd : X.A.guards = some []) (hu : X.A.units + 64 < cLine) : CallR X (.builtin "repr") (rRepr X.K) := by
  intro pins s σ H xs us Q I r h
  obtain ⟨a, d, rfl, hd, hs, hk, hdp, hz, q⟩ := h
  obtain rfl := Vals.ref1 r
  obtain ⟨as, rd⟩ := Dp.reads I d _ _ hd (show L2.RelV (V.ref a) (Value.ref a) from rfl)
  exact repr_of_reads' rd hs (fun z => by rw [hk] at z; cases z) hgd (by omega) (fun b o e => e) (fun h' u tk k => ⟨.str d.shown, H, I.kept (t' := tk) k, ⟨u, rfl⟩, q⟩) hz
end
/-! ### the walk's end -/
/-- what is known of the law at the head's heap -/
def LawAtG (l : PySem.W.OpenLaw) (w : World) (K : PySem.W.Frag) (k n : Nat) (x : Str) (mg : Str → Option Value) (fa : Addr) (h : Heap) : Prop :=
  ∃ (fd : FuncData) (cs : List (Addr × Addr)) (sp : Sp), (∀ p ∈ cs, h.get? p.2 = some { cls := .none, data := .fields #[] }) ∧ (∀ p ∈ cs, K.lookup p.2 = none) ∧ (∀ p ∈ cs, PySem.W.CodeHd h p.1 p.2) ∧ (∀ (s : Shared) (u : Value), BindsTo s fd ⟨[u], []⟩ [(x, u)]) ∧
    (∀ (H : Hp) (a : Addr) (ns : List Int), ns.length ≤ n → (∀ p ∈ cs, H p.2 = some (.tbl #[])) → SqL K H a (ns.map V.int) → sp [.ref a] H (fun v _ => v = .bl true) fun _ _ _ => False) ∧
    ∀ base : Heap, K.In base → base.Ns mainGlobals mg → (∀ p ∈ cs, TabB base mg p.1 p.2) → FnG l.prog w K mg base k fa fd [x] sp
theorem walk_ofG {l : PySem.W.OpenLaw} {n k : Nat} {q : Program} {loose : List Str} {XP : (Str → Option Value) → Heap → Prop} {YP : World → Heap → Prop} {d : DefRec} {K : Params → PySem.W.Frag} {x : Str}
    (hn : l.most = some n) (hn2 : n ≤ sizeLine) (hdf : d.params.defaults = []) (hr : Room k callerA) (hY : ∀ (w : World) (h : Heap), YP w h → (K w.params).In h)
    (F : ∀ (w : World) (mg : Str → Option Value) (fa : Addr) (h : Heap), YP w h → (K w.params).In h → h.Ns mainGlobals mg → mg d.name = some (.ref fa) → LawAtG l w (K w.params) k n x mg fa h) :
    PySem.W.WalkO q loose XP YP l.row.toRowW d [] (fun f vs => PySem.call f vs) := by
  refine Att.attach_callB hn hdf fun w s0 s1 mg mb fa o pm cd doc a vs ns G Y ho hd hcd hmg hobj hints hlen hbits hg => ?_
  have kx := hY w _ Y
  obtain ⟨fd, cs, sp, hT, nT, C, hb, hsp, hF⟩ := F w mg fa _ Y kx G.T.g hmg
  exact start_run (CX := C8.CX0) kx G.T.g G.T.b G.T.builtins G.T.nolimit hg hT nT C G.T.bmain hobj hints (Nat.le_trans hlen hn2)
    (fun base H kb nb tb htb hS e0 => (hF base kb nb tb).run callerA [] s1 H ⟨[.ref a], []⟩ [.ref a] [.ref a] _ _ hr rfl e0 (hb s1 (.ref a)) (.cons rfl .nil) (hsp H a ns hlen htb hS)) fun H e s' z => z
end Gd
set_option Elab.async false
set_option linter.all false
set_option maxRecDepth 100000
/-! Kw: f(k = v, ..), keywords alone -/
namespace Kw
open PySem PySem.Spec PyProof.Rows L2
theorem pe_callK0 {X : Cx} {CX : CXT} {k : Nat} {f : Addr} {fd : FuncData} {ps ks : List Str} {sp : Sp} {E : XK} {x : Str} {p pos : Pos} {kws : List Keyword} {tk : TA} {g : List Value → List Value → List Value} {gV : List V → List V → List V}
    (F : FnOk X.prog X.w X.K X.mg X.base CX k f fd ps sp) (hr : Room k X.A) (hg : Gl X x) (hm : X.mg x = some (.ref f)) (hk : PySem.W.keepIn X.K (.ref f) = true) (hb : KBinds X.K fd ps ks g gV) (hx : Passes CX X E) (hkw : PK X kws tk)
    (hall : (backToKw pos (keywordEach kws X.env)).all (·.1.isSome) = true := by rfl) (hks : (backToKw pos (keywordEach kws X.env)).filterMap (·.1) = ks := by rfl) (hdb : (x == ("__debug__" : Str)) = false := by decide)
    (hpl : ((backTo pos (starEach [] X.env)).any (·.1) || (backToKw pos (keywordEach kws X.env)).any (·.1.isNone)) = false := by rfl) : PE X (.Call (.Name x p) [] kws pos) (fun σ H Q => tk σ H fun zs H1 => sp (gV [] zs) H1 Q E) := by
  refine ⟨fun pins s σ H Q I h => ?_⟩
  refine wpAny_Call_Name_kw (ld_glob I hg hm ?_ hdb)
  refine PySem.W.callWith_KW0 (h₀ := X.base) I.ok.mod.kin hk hall (thn (hkw.run pos pins s σ H _ I h) fun ws s1 ⟨zs, H1, I1, rz, q⟩ => ⟨I1.kIn, ?_⟩) hpl
  rw [hks]
  exact run_fnk (us := []) (vs := []) F hr hb hx I1 .nil rz q
/-- one parameter, by place or by name -/
theorem kb1 {K : PySem.W.Frag} {fd : FuncData} {p : Str} (h0 : ∀ u : Value, bindArgs fd ⟨[u], []⟩ = pure [(p, u)]) (h1 : ∀ u : Value, bindArgs fd ⟨[], [(p, u)]⟩ = pure [(p, u)]) : KBinds K fd [p] [p] (fun us ws => us ++ ws) (fun vs zs => vs ++ zs) where
  to := fun s us ws _ hl => by
    match us, ws, hl with
    | [u], [], _ => exact .of_eq (h0 u)
    | [], [u], _ => exact .of_eq (h1 u)
    | [], [], hl => cases hl
    | _ :: _ :: _, _, hl => simp at hl
    | [_], _ :: _, hl => simp at hl
    | [], _ :: _ :: _, hl => simp at hl
  rel := fun r r' => r.append r'
end Kw
set_option Elab.async false
set_option linter.all false
set_option maxRecDepth 100000
namespace K04
open PySem L2
def top (i : Nat) : Stmt := PySem.Challenge.pw_entryhall_k04_error_families.main.body.getD i (.Pass ⟨0, 0, 0, 0⟩)
/-- a def of the text -/
structure Df (K : PySem.W.Frag) (mg : Str → Option Value) (name qual : Str) (st : Stmt) (ps : List Str) (f : Addr) (fd : FuncData) : Prop where
  F : Fun K name qual st f fd
  b : Binds K fd ps []
  g : mg name = some (.ref f)
/-- the built-ins stand as they are -/
structure Bl (mg : Str → Option Value) : Prop where
  isinstance : mg "isinstance" = none
  int : mg "int" = none
  bool : mg "bool" = none
  list : mg "list" = none
  range : mg "range" = none
  len : mg "len" = none
  min : mg "min" = none
  max : mg "max" = none
  sorted : mg "sorted" = none
  enumerate : mg "enumerate" = none
  repr : mg "repr" = none
  tuple : mg "tuple" = none
  divmod : mg "divmod" = none
section
variable {P : Program} {w : World} {K : PySem.W.Frag} {mg : Str → Option Value} {base : Heap}
theorem pInt {X : Cx} {pos : Pos} (hg : Gl X "int") (hm : X.mg "int" = none) : PE X (.Name "int" pos) (tC (.ty "int")) := pe_bltn (v := .ty "int") (u := .type "int") hg hm (by decide +kernel) rfl
theorem pBool {X : Cx} {pos : Pos} (hg : Gl X "bool") (hm : X.mg "bool" = none) : PE X (.Name "bool" pos) (tC (.ty "bool")) := pe_bltn (v := .ty "bool") (u := .type "bool") hg hm (by decide +kernel) rfl
end
theorem ixN_n {n j : Nat} (hj : j < n) : ixN n (j : Int) = some j := by
  unfold ixN
  rw [if_pos (by omega), if_pos (by omega)]
  simp
theorem iteNo {b : Bool} {p q : Prop} (h : b = false) (k : q) : if b = true then p else q := by
  subst h
  exact k
theorem iteYes {b : Bool} {p q : Prop} (h : b = true) (k : p) : if b = true then p else q := by
  subst h
  exact k
theorem upd_upd {H : Hp} {a : Addr} {x y : HO} : upd (upd H a x) a y = upd H a y := by
  funext b
  unfold upd
  split <;> rfl
/-! ### lists of ints as data -/
theorem dp_ints {K : PySem.W.Frag} {H : Hp} : ∀ gs : List Int, DpAll K H (gs.map V.int) (gs.map PyData.int)
  | [] => .nil
  | g :: gs => .cons (.int g) (dp_ints gs)
theorem can_ints : ∀ gs : List Int, PyData.canLayAll0 (gs.map PyData.int) = true
  | [] => by simp [PyData.canLayAll0]
  | g :: gs => by
    rw [List.map_cons, PyData.canLayAll0, can_ints gs]
    simp [PyData.canLay0]
theorem depth_ints : ∀ gs : List Int, PyData.depthAll (gs.map PyData.int) = 0
  | [] => by simp [PyData.depthAll]
  | g :: gs => by
    rw [List.map_cons, PyData.depthAll, depth_ints gs]
    simp [PyData.depth]
theorem shaped_ints (gs : List Int) : SeqAt.shaped (.list (gs.map PyData.int)) = true := by
  unfold SeqAt.shaped
  rw [PyData.canLay0, can_ints, PyData.depth, depth_ints]
  rfl
theorem eqv_nil : ∀ gs : List Int, PyData.eqv (.list (gs.map PyData.int)) (.list []) = gs.isEmpty
  | [] => by simp [PyData.eqv, PyData.eqvAll]
  | g :: gs => by simp [PyData.eqv, PyData.eqvAll]
/-- a remainder as a natural number -/
theorem fmod_nat (i : Int) {m : Int} (h : 0 < m) : ∃ n : Nat, i.fmod m = (n : Int) ∧ (n : Int) < m := by
  rw [Int.fmod_eq_emod_of_nonneg _ (by omega)]
  have h1 := Int.emod_nonneg i (show m ≠ 0 by omega)
  have h2 := Int.emod_lt_of_pos i h
  exact ⟨(i % m).toNat, by omega, by omega⟩
theorem same_new {H : Hp} {a : Addr} {o : HO} (h : H a = none) : Same H (upd H a o) := fun b u e => by
  rw [upd_ne (ne_of_none e h)]
  exact e
theorem int_at {ns : List Int} {i : Nat} {x : V} (h : (ns.map V.int)[i]? = some x) : ∃ z, x = V.int z ∧ ns[i]? = some z := by
  rw [List.getElem?_map] at h
  obtain ⟨z, hz, rfl⟩ := Option.map_eq_some_iff.mp h
  exact ⟨z, rfl, hz⟩
/-- for i, x in enumerate(a list) -/
theorem for_enumL {K : PySem.W.Frag} {a : Addr} {xs : List V} {g : TG} {tb : TS} {D : Ends} {σ : L2.St} {H : Hp} (Pv : Nat → L2.St → Hp → Prop) (h0 : Pv 0 σ H) (hl : ∀ i σ H, i ≤ xs.length → Pv i σ H → SqL K H a xs)
    (hs : ∀ i x T σ H, xs[i]? = some x → Pv i σ H → H T = none → g (.ref T) σ (upd H T (.tup [.int (i : Nat), x])) fun σ2 H2 => tb { D with nx := Pv (i + 1), ct := Pv (i + 1), bk := D.nx } σ2 H2) (hd : ∀ σ H, Pv xs.length σ H → D.nx σ H) :
    ∃ W : Nat → Nat → L2.St → Hp → Prop, (∃ m, W 0 m σ H) ∧ ∀ i m σ H, W i m σ H →
      ((Ite K a).stop i H ∧ D.nx σ H) ∨ ((Ite K a).go i H ∧ ∃ N : L2.St → Hp → Prop, (∀ σ' H', N σ' H' → ∃ m', m' < m ∧ W (i + 1) m' σ' H') ∧ ∀ x H', (Ite K a).yld i H x H' → g x σ H' fun σ2 H2 => tb { D with nx := N, ct := N, bk := D.nx } σ2 H2) := by
  refine ⟨fun i m σ H => m = xs.length - i ∧ i ≤ xs.length ∧ Pv i σ H, ⟨xs.length, by simp, Nat.zero_le _, h0⟩, ?_⟩
  rintro i m σ H ⟨rfl, hi, p⟩
  have q := hl i σ H hi p
  by_cases hlt : i < xs.length
  · refine .inr ⟨⟨xs, xs[i], q, by simp [hlt]⟩, Pv (i + 1), fun σ' H' p' => ⟨xs.length - (i + 1), by omega, rfl, hlt, p'⟩, fun x H' y => ?_⟩
    obtain ⟨T, x, rfl, hT, rfl, hx⟩ := y
    exact hs i x T σ H (hx xs q) p hT
  · have e : i = xs.length := by omega
    subst e
    exact .inl ⟨⟨xs, q, Nat.le_refl _⟩, hd σ H p⟩
/-! ### the law's digits -/
abbrev sMixed : Stmt := top 24
abbrev sDraw : Stmt := top 25
abbrev sDigit : Stmt := top 26
abbrev kL : Key := .inr "left"
abbrev kC : Key := .inr "cell"
abbrev kT : Key := .inr "turns"
def sdK (l c t : Int) : List (Key × V) := [(kL, .int l), (kC, .int c), (kT, .int t)]
theorem nLC : ¬ (kL = kC) := by decide +kernel
theorem nLT : ¬ (kL = kT) := by decide +kernel
theorem nCT : ¬ (kC = kT) := by decide +kernel
theorem nCL : ¬ (kC = kL) := by decide +kernel
theorem nTL : ¬ (kT = kL) := by decide +kernel
theorem sd_left {l c t : Int} : valV (sdK l c t) kL = some (.int l) := by
  unfold sdK valV
  rw [List.find?_cons, decide_eq_true rfl]
  rfl
theorem sd_cell {l c t : Int} : valV (sdK l c t) kC = some (.int c) := by
  unfold sdK valV
  rw [List.find?_cons, decide_eq_false nLC, List.find?_cons, decide_eq_true rfl]
  rfl
theorem sd_turns {l c t : Int} : valV (sdK l c t) kT = some (.int t) := by
  unfold sdK valV
  rw [List.find?_cons, decide_eq_false nLT, List.find?_cons, decide_eq_false nCT, List.find?_cons, decide_eq_true rfl]
  rfl
theorem spl {l c t z : Int} : putK (sdK l c t) kL (.int z) = sdK z c t := by
  unfold sdK putK
  rw [if_pos (by simp)]
  simp only [List.map_cons, List.map_nil, if_true, if_neg nCL, if_neg nTL]
theorem spt {l c t z : Int} : putK (sdK l c t) kT (.int z) = sdK l c z := by
  unfold sdK putK
  rw [if_pos (by simp)]
  simp only [List.map_cons, List.map_nil, if_true, if_neg nLT, if_neg nCT]
theorem dget_left {H : Hp} {s : Addr} {l c t : Int} (h : H s = some (.dK (sdK l c t))) : DGet H s (.str "left") (some (.int l)) := by
  have := DGet.k (k := kL) h
  rw [sd_left] at this
  exact this
theorem dget_cell {H : Hp} {s : Addr} {l c t : Int} (h : H s = some (.dK (sdK l c t))) : DGet H s (.str "cell") (some (.int c)) := by
  have := DGet.k (k := kC) h
  rw [sd_cell] at this
  exact this
theorem dget_turns {H : Hp} {s : Addr} {l c t : Int} (h : H s = some (.dK (sdK l c t))) : DGet H s (.str "turns") (some (.int t)) := by
  have := DGet.k (k := kT) h
  rw [sd_turns] at this
  exact this
theorem dput_left {H : Hp} {s : Addr} {l c t z : Int} (h : H s = some (.dK (sdK l c t))) : DPut H s (.str "left") (.int z) (upd H s (.dK (sdK z c t))) := by
  have := DPut.k (k := kL) (v := .int z) h (by show 3 < sizeLine; decide)
  rw [spl] at this
  exact this
theorem dput_turns {H : Hp} {s : Addr} {l c t z : Int} (h : H s = some (.dK (sdK l c t))) : DPut H s (.str "turns") (.int z) (upd H s (.dK (sdK l c z))) := by
  have := DPut.k (k := kT) (v := .int z) h (by show 3 < sizeLine; decide)
  rw [spt] at this
  exact this
theorem merge_sd {l c t : Int} : mergeK [] (sdK l c t) = sdK l c t := by
  unfold mergeK sdK
  simp only [List.foldl_cons, List.foldl_nil]
  have e1 : putK ([] : List (Key × V)) kL (.int l) = [(kL, .int l)] := rfl
  have e2 : putK [(kL, V.int l)] kC (.int c) = [(kL, .int l), (kC, .int c)] := by
    unfold putK
    rw [if_neg (by simp; decide +kernel)]
    rfl
  have e3 : putK [(kL, V.int l), (kC, .int c)] kT (.int t) = [(kL, .int l), (kC, .int c), (kT, .int t)] := by
    unfold putK
    rw [if_neg (by simp; decide +kernel)]
    rfl
  rw [e1, e2, e3]
/-- a source of digits stands at s; its turns are at most n -/
def Src (H : Hp) (s : Addr) (n : Nat) : Prop := ∃ l c t : Int, H s = some (.dK (sdK l c t)) ∧ 0 ≤ l ∧ 0 ≤ t ∧ t ≤ (n : Int)
/-- all but the source stays -/
def KeptS (H H' : Hp) (s : Addr) : Prop := ∀ b o, H b = some o → b ≠ s → H' b = some o
theorem KeptS.trans {H H1 H2 : Hp} {s : Addr} (a : KeptS H H1 s) (b : KeptS H1 H2 s) : KeptS H H2 s := fun c o e h => b c o (a c o e h) h
theorem KeptS.of {H H1 : Hp} {s : Addr} (a : Same H H1) : KeptS H H1 s := fun c o e _ => a c o e
theorem KeptS.same {H H1 : Hp} {s : Addr} (a : KeptS H H1 s) {H0 : Hp} (sm : Same H0 H) (h : H0 s = none) : Same H0 H1 := fun b o e => a b o (sm b o e) (ne_of_none e h)
theorem Src.same {H H1 : Hp} {s : Addr} {n : Nat} (h : Src H s n) (a : Same H H1) : Src H1 s n := by
  obtain ⟨l, c, t, h1, h2⟩ := h
  exact ⟨l, c, t, a _ _ h1, h2⟩
section
variable {P : Program} {w : World} {K : PySem.W.Frag} {mg : Str → Option Value} {base : Heap}
def spMixed : Sp := fun vs H Q _ => ∃ (c k : Int), vs = [.int c, .int k] ∧ 0 ≤ k ∧ k < 2 ^ 40 ∧ ∀ (n : Nat) (H' : Hp), Same H H' → (n : Int) < 2147483647 → Q (.int (n : Int)) H'
theorem scMixed : FnScope ["cell", "k", "mixed"] ["cell", "k"] (defScope sMixed) := ⟨rfl, rfl, rfl, by decide +kernel, rfl, by decide +kernel, by decide +kernel⟩
theorem pick4 (n : Nat) (h : (n : Int) < 4) : ∃ m : Nat, 0 < m ∧ m < 2147483648 ∧ ([V.int 1000000007, .int 998244353, .int 2147483629, .int 1000000009] : List V)[n]? = some (V.int (m : Int)) := by
  have h : n < 4 := by omega
  match n, h with
  | 0, _ => exact ⟨1000000007, by decide, by decide, rfl⟩
  | 1, _ => exact ⟨998244353, by decide, by decide, rfl⟩
  | 2, _ => exact ⟨2147483629, by decide, by decide, rfl⟩
  | 3, _ => exact ⟨1000000009, by decide, by decide, rfl⟩
theorem ok_mixed {f : Addr} {fd : FuncData} (D : Df K mg "_law_mixed" "_law_mixed" sMixed ["cell", "k"] f fd) : FnOk P w K mg base CX0 1 f fd ["cell", "k"] spMixed := by
  refine D.F.ok scMixed (fun vs H Q E h => ?_) (fun cdv A outer s H vs Q E hr h => ?_)
  · obtain ⟨c, k, rfl, _⟩ := h
    rfl
  · obtain ⟨c, k, rfl, k0, k1, q⟩ := h
    refine ⟨_, pss_cons (ps_set (i := 2) scMixed.nd rfl (Or.inl rfl) (pe_op op_add (pe_op op_add (pe_op op_modN (pv 0) (pe_ix ix_list (pe_lst (pa_cons pe_int (pa_cons pe_int (pa_cons pe_int (pa_cons pe_int pa_nil))))) (pe_op op_modN (pv 1) pe_int) (fun _ _ => rfl))) (pe_op op_mul pe_int (pv 1))) pe_int))
      (pss_one (ps_ret (pe_op op_modN (pe_op op_mul (pe_op op_modN (pe_op op_mul (pv 2) (pv 2)) pe_int) pe_int) pe_int))), ?_⟩
    obtain ⟨j, ej, hj⟩ := fmod_nat k (m := 4) (by decide)
    obtain ⟨m, m0, m1, em⟩ := pick4 j hj
    refine ⟨_, rfl, by show 4 ≤ sizeLine; decide, fun L hL => ?_⟩
    refine ⟨_, rfl, _, _, rfl, rfl, (by show (4 : Int) ≠ 0; decide), ?_⟩
    dsimp only
    rw [ej]
    obtain ⟨x, ex, hx⟩ := fmod_nat c (m := (m : Int)) (by omega)
    refine ⟨L, _, (j : Int), _, rfl, rfl, SqL.of upd_same, atI_nat em, _, _, rfl, rfl, (by show (m : Int) ≠ 0; omega), ?_⟩
    dsimp only
    rw [ex]
    refine ⟨_, rfl, _, _, rfl, rfl, .inl ⟨by decide, by decide⟩, _, _, rfl, rfl, _, _, rfl, rfl, ?_⟩
    have b0 : 0 ≤ (x : Int) + 7919 * k + 13 := by omega
    have b1 : (x : Int) + 7919 * k + 13 < 2 ^ 64 := by
      have : (2 : Int) ^ 40 = 1099511627776 := by decide
      have : (2 : Int) ^ 64 = 18446744073709551616 := by decide
      omega
    refine ⟨_, rfl, _, rfl, _, _, rfl, rfl, .inl ⟨by show -(2 ^ 64) < (x : Int) + 7919 * k + 13; omega, b1⟩, _, _, rfl, rfl, (by show (2147483647 : Int) ≠ 0; decide), ?_⟩
    dsimp only
    obtain ⟨y, ey, hy⟩ := fmod_nat (((x : Int) + 7919 * k + 13) * ((x : Int) + 7919 * k + 13)) (m := 2147483647) (by decide)
    rw [ey]
    refine ⟨_, _, rfl, rfl, .inl ⟨by omega, by omega⟩, _, _, rfl, rfl, (by show (2147483647 : Int) ≠ 0; decide), ?_⟩
    dsimp only
    obtain ⟨z, ez, hz⟩ := fmod_nat ((y : Int) * 48271) (m := 2147483647) (by decide)
    rw [ez]
    exact q z _ (same_new hL) hz
def spDraw : Sp := fun vs H Q _ => ∃ (c k : Int), vs = [.int c, .int k] ∧ 0 ≤ k ∧ ∀ s H', Same H H' → H s = none → (∀ n : Nat, 1000 * k ≤ (n : Int) → Src H' s n) → Q (.ref s) H'
theorem scDraw : FnScope ["cell", "k"] ["cell", "k"] (defScope sDraw) := ⟨rfl, rfl, rfl, by decide +kernel, rfl, by decide +kernel, by decide +kernel⟩
theorem ok_draw {f : Addr} {fd : FuncData} (D : Df K mg "_law_draw" "_law_draw" sDraw ["cell", "k"] f fd) : FnOk P w K mg base CX0 1 f fd ["cell", "k"] spDraw := by
  refine D.F.ok scDraw (fun vs H Q E h => ?_) (fun cdv A outer s H vs Q E hr h => ?_)
  · obtain ⟨c, k, rfl, _⟩ := h
    rfl
  · obtain ⟨c, k, rfl, k0, q⟩ := h
    refine ⟨_, pss_one (ps_ret (pe_disp (pps_cons pe_str (pe_ifExp (pt_cmpR op_ge (pv 0) (pe_op op_pow pe_int pe_int) (nomark _)) (pv 0) pe_int) (pps_cons pe_str (pv 0) (pps_cons pe_str (pe_op op_mul pe_int (pv 1)) pps_nil))) (by rfl) (by rfl) (fun z => by cases z) (by decide))), ?_⟩
    intro d hd
    have fin : ∀ l : Int, 0 ≤ l → ∃ kvs, some (HO.dK []) = some (.dK []) ∧ kvs = sdK l c (1000 * k) := fun l _ => ⟨_, rfl, rfl⟩
    refine ⟨_, rfl, _, _, rfl, rfl, ⟨by decide, by decide, by decide⟩, _, _, rfl, rfl, _, rfl, ite2 (fun e => ?_) (fun e => ?_)⟩
    · have e : (10 : Int) ^ (18 : Int).toNat ≤ c := of_decide_eq_true e
      refine ⟨_, rfl, _, rfl, _, rfl, _, _, rfl, rfl, .inl ⟨by decide, by decide⟩, ?_⟩
      refine ⟨upd_same, sdK c c (1000 * k), rfl, (by show 3 ≤ 15; decide), ?_⟩
      rw [merge_sd]
      have hc : 0 ≤ c := Int.le_trans (by decide) e
      refine q d _ (fun b o e => by rw [upd_ne (ne_of_none e hd), upd_ne (ne_of_none e hd)]; exact e) hd fun n hn => ⟨c, c, 1000 * k, upd_same, hc, by omega, hn⟩
    · refine ⟨_, rfl, _, rfl, _, _, rfl, rfl, .inl ⟨by decide, by decide⟩, ?_⟩
      refine ⟨upd_same, sdK 0 c (1000 * k), rfl, (by show 3 ≤ 15; decide), ?_⟩
      rw [merge_sd]
      refine q d _ (fun b o e => by rw [upd_ne (ne_of_none e hd), upd_ne (ne_of_none e hd)]; exact e) hd fun n hn => ⟨0, c, 1000 * k, upd_same, by decide, by omega, hn⟩
def spDigit : Sp := fun vs H Q _ => ∃ (s : Addr) (b n : Nat), vs = [.ref s, .int (b : Int)] ∧ Src H s n ∧ n + 4 < 2 ^ 40 ∧ 0 < b ∧ b < 2 ^ 62 ∧ ∀ (m : Nat) (H' : Hp), m < b → Src H' s (n + 4) → KeptS H H' s → Q (.int (m : Int)) H'
theorem scDigit : FnScope ["state", "size", "j", "found"] ["state", "size"] (defScope sDigit) := ⟨rfl, rfl, rfl, by decide +kernel, rfl, by decide +kernel, by decide +kernel⟩
theorem ok_digit {f f1 : Addr} {fd fd1 : FuncData} (D : Df K mg "_law_digit" "_law_digit" sDigit ["state", "size"] f fd) (B : Bl mg) (D1 : Df K mg "_law_mixed" "_law_mixed" sMixed ["cell", "k"] f1 fd1) (G1 : FnOk P w K mg base CX0 1 f1 fd1 ["cell", "k"] spMixed) : FnOk P w K mg base CX0 2 f fd ["state", "size"] spDigit := by
  refine D.F.ok scDigit (fun vs H Q E h => ?_) (fun cdv A outer s H vs Q E hr h => ?_)
  · obtain ⟨d, b, n, rfl, _⟩ := h
    rfl
  · obtain ⟨d, b, n, rfl, ⟨l, c, t, hd, l0, t0, t1⟩, hn, b0, b1, q⟩ := h
    have hu := hu_of hr
    refine ⟨_, pss_cons (ps_if (pt_cmpR op_eq (pe_dget hu (pv 0) pe_str (fun _ _ => rfl)) pe_int (nomark _))
        (pss_one (ps_for PassesOwn.never rfl (pi_range1 rfl B.range (pa_cons pe_int pa_nil)) (pg_name (i := 2) scDigit.nd rfl (Or.inl rfl))
          (pss_cons (ps_dput hu (pv 0) pe_str (pe_op op_add (pe_dget hu (pv 0) pe_str (fun _ _ => rfl)) pe_int) rfl)
            (pss_one (ps_dput hu (pv 0) pe_str (pe_op op_add (pe_op op_mul (pe_dget hu (pv 0) pe_str (fun _ _ => rfl)) pe_int) (pe_call G1 hr rfl D1.g D1.F.kp D1.b .nil pass0 (pa_cons (pe_dget hu (pv 0) pe_str (fun _ _ => rfl)) (pa_cons (pe_dget hu (pv 0) pe_str (fun _ _ => rfl)) pa_nil)))) rfl))))) pss_nil)
      (pss_cons (ps_set (i := 3) scDigit.nd rfl (Or.inl rfl) (pe_op op_modN (pe_dget hu (pv 0) pe_str (fun _ _ => rfl)) (pv 1)))
      (pss_cons (ps_dput hu (pv 0) pe_str (pe_op op_fdivW (pe_dget hu (pv 0) pe_str (fun _ _ => rfl)) (pv 1)) rfl)
      (pss_one (ps_ret (pv 3))))), ?_⟩
    -- behind the test
    refine ⟨_, rfl, d, _, rfl, dget_left hd, rfl, _, rfl, ite2 (fun e => ?_) (fun e => ?_)⟩
    · have e : l = 0 := by simpa using of_decide_eq_true e
      subst e
      refine ⟨4, rfl, by decide, by decide, for_range (n := 4) (fun i σ H' => (∃ v2, σ = [some (.ref d), some (.int (b : Int)), v2, none]) ∧ (∃ l : Int, H' d = some (.dK (sdK l c (t + (i : Int)))) ∧ 0 ≤ l) ∧ KeptS H H' d) ⟨⟨_, rfl⟩, ⟨0, by rw [hd]; simp, by decide⟩, fun b o e _ => e⟩ ?_ ?_⟩
      · rintro i σ H' hi ⟨⟨v2, rfl⟩, ⟨l, hl, l0⟩, kp⟩
        refine ⟨_, rfl, d, _, rfl, dget_turns hl, _, _, rfl, rfl, _, rfl, d, _, rfl, dput_turns hl, ?_⟩
        refine ⟨_, rfl, d, _, rfl, dget_left upd_same, _, _, rfl, rfl, .inr ⟨by decide, by decide⟩, ?_⟩
        refine ⟨_, rfl, d, _, rfl, dget_cell upd_same, _, rfl, d, _, rfl, dget_turns upd_same, c, _, rfl, by omega, by omega, fun m H2 sm hm => ⟨_, _, rfl, rfl, _, rfl, d, _, rfl, dput_left (sm _ _ upd_same), ?_⟩⟩
        refine ⟨⟨_, rfl⟩, ⟨l * 2147483647 + (m : Int), ?_, by omega⟩, fun b o e hb => ?_⟩
        · rw [upd_same]
          have e : t + (i : Int) + 1 = t + ((i + 1 : Nat) : Int) := by omega
          rw [e]
        · rw [upd_ne hb]
          exact sm _ _ (by rw [upd_ne hb]; exact kp b o e hb)
      · rintro σ H' ⟨⟨v2, rfl⟩, ⟨l, hl, l0⟩, kp⟩
        have ht0 : 0 ≤ t + ((4 : Nat) : Int) := by omega
        have ht1 : t + ((4 : Nat) : Int) ≤ ((n + 4 : Nat) : Int) := by omega
        have hp : (0 : Int) < (b : Int) := by omega
        obtain ⟨m, em, hm⟩ := fmod_nat l (m := (b : Int)) hp
        refine ⟨_, rfl, d, _, rfl, dget_left hl, _, rfl, _, _, rfl, rfl, (by show (b : Int) ≠ 0; omega), ?_⟩
        dsimp only
        rw [em]
        refine ⟨_, rfl, d, _, rfl, dget_left hl, _, rfl, _, _, rfl, rfl, wide_div (b := 62) (by omega) (by omega) (by decide) (by decide), _, rfl, d, _, rfl, dput_left hl, ?_⟩
        refine ⟨_, rfl, q m _ (by omega) ⟨_, c, _, upd_same, ?_, ht0, ht1⟩ fun b o e hb => by rw [upd_ne hb]; exact kp b o e hb⟩
        exact Int.ediv_nonneg l0 (by omega)
    · have hl := hd
      have kp : KeptS H H d := fun b o e _ => e
      have ht0 : 0 ≤ t := t0
      have ht1 : t ≤ ((n + 4 : Nat) : Int) := by omega
      have hp : (0 : Int) < (b : Int) := by omega
      obtain ⟨m, em, hm⟩ := fmod_nat l (m := (b : Int)) hp
      refine ⟨_, rfl, d, _, rfl, dget_left hl, _, rfl, _, _, rfl, rfl, (by show (b : Int) ≠ 0; omega), ?_⟩
      dsimp only
      rw [em]
      refine ⟨_, rfl, d, _, rfl, dget_left hl, _, rfl, _, _, rfl, rfl, wide_div (b := 62) (by omega) (by omega) (by decide) (by decide), _, rfl, d, _, rfl, dput_left hl, ?_⟩
      refine ⟨_, rfl, q m _ (by omega) ⟨_, c, _, upd_same, ?_, ht0, ht1⟩ fun b o e hb => by rw [upd_ne hb]; exact kp b o e hb⟩
      exact Int.ediv_nonneg l0 (by omega)
end
end K04
set_option Elab.async false
set_option linter.all false
set_option maxRecDepth 100000
set_option maxHeartbeats 1000000
/-! Xk: an own exception made by keyword, C(f = e), as a value -/
namespace Xk
open PySem PySem.Spec PyProof.Rows L2 HandSPX Xo
section
variable {prog : Program} {w : World} {A : Around} {E : Value → Shared → Prop} {R : Result → Shared → Prop} {h : Heap} {g : Array GenState} {d : Drawn} {t : Nat} {os : OsState}
variable {nm q : Str} {C N : Addr} {bs bm bmB : List Value} {hdct : Bool} {sn : List Str} {sub : List Value} {ab : Bool} {col : Option Bool} {dd : Option Addr} {k0 k1 k2 k3 k5 : Option Value} {B newId initId : String} {f : Str} {u : Value}
theorem check_call_kw {M : Model} {Q : Unit → Shared → Prop} (hC : h.get? C = some (excClassObj nm q C N bs bm hdct sn sub ab col dd k0 k1 k2 k3 k5 newId))
    (hq : Q () ⟨h, g, d, t, os⟩) : wpAny M A (checkBuiltinCall "type.__call__" ⟨[.ref C], [(f, u)]⟩) Q E ⟨h, g, d, t, os⟩ := by
  have f3 := tc_sub
  have hT : (⟨h, g, d, t, os⟩ : Shared).TypeIs (.ref C) "type" := ⟨_, hC, rfl⟩
  simp only [checkBuiltinCall, tc_kind, tc_split]
  repeat (any_goals (first | assumption | with_reducible refine wpAny_loadPart_at hC ?_ | with_reducible refine wpAny_onRaise ?_ | with_reducible refine wpAny_map ?_ | wp_step))
theorem check_new_kw {M : Model} (F : ExcBaseFacts B newId initId bmB) (hT : ∀ X : String, bm.contains (.type X) = bmB.contains (.type X)) {Q : Unit → Shared → Prop}
    (hC : h.get? C = some (excClassObj nm q C N bs bm hdct sn sub ab col dd k0 k1 k2 k3 k5 newId)) (hq : Q () ⟨h, g, d, t, os⟩) : wpAny M A (checkBuiltinCall newId ⟨[.ref C], [(f, u)]⟩) Q E ⟨h, g, d, t, os⟩ := by
  have hcont : (Value.ref C :: bm).contains (.type B) = true := by rw [List.contains_cons, hT, F.hasB, Bool.or_true]
  have hstar := F.noStar
  simp only [checkBuiltinCall, F.newKind, F.newSplit, F.newRow]
  repeat (first | refine wpAny_loadPart_at hC ?_ | (refine wpAny_isSubtype_exc hC ?_; rw [hcont]) | refine wpAny_staticBase_exc hC ?_ | refine wpAny_madeBy_exc hC ?_ | simp only [bne_self_eq_false, Bool.false_eq_true, if_false] | wp_step)
  exact hq
theorem new_kw (F : ExcBaseFacts B newId initId bmB) (hT : ∀ X : String, bm.contains (.type X) = bmB.contains (.type X))
    (hC : h.get? C = some (excClassObj nm q C N bs bm hdct sn sub ab col dd k0 k1 k2 k3 k5 newId))
    (hq : R (.ok (.ret (.ref (h.objs.size + 1)))) ⟨(h.push { cls := .type "tuple", data := .seq #[] }).push
      { cls := .ref C, data := .fields #[.ref h.objs.size, .none, .none, .none, .bool false, .none] }, g, d, t, os⟩) :
    codeAny (model prog w) A (.builtin newId ⟨[.ref C], [(f, u)]⟩) R ⟨h, g, d, t, os⟩ := by
  have hends := F.ends
  have hrest : ([] : List Value).length ≤ sizeLine := Nat.zero_le _
  have hcB : (Value.ref C :: bm).contains (.type B) = true := by rw [List.contains_cons, hT, F.hasB, Bool.or_true]
  have hcA : (Value.ref C :: bm).contains (.type "AttributeError") = false := by rw [List.contains_cons, hT, F.noAttr]; rfl
  have hcN : (Value.ref C :: bm).contains (.type "NameError") = false := by rw [List.contains_cons, hT, F.noName]; rfl
  refine codeAny_builtinAt F.entry ?_
  unfold Builtin.«BaseException.__new__»
  refine PySem.wpAt_bind ?_
  show PySem.wpAt _ _ _ (stack >>= _) _ _ _
  refine PySem.wpAt_bind (PySem.wpAt_stack fun p below => PySem.wpAt_of_wpAny ?_)
  wp_walk
  refine PySem.wpAt_of_wpAny ?_
  rw [F.owner]
  repeat (first | with_reducible refine wpAny_madeHere_exc F.canon hC ?_ | with_reducible refine wpAny_loadPart_at hC ?_ | (with_reducible refine wpAny_isSubtype_exc hC ?_; first | rw [hcB] | rw [hcA] | rw [hcN]) | wp_step)
  show R _ _
  rw [Heap.size_push]
  exact hq
theorem type_call_kw (F : ExcBaseFacts B newId initId bmB) (hT : ∀ X : String, bm.contains (.type X) = bmB.contains (.type X)) {fI : Addr} {Q : PySem.Fin → Shared → Prop}
    (hC : h.get? C = some (excClassObj nm q C N bs bm hdct sn sub ab col dd k0 k1 k2 k3 k5 newId))
    (hi : W.Looks (model prog w) h (typeLookup (.ref C) "__init__") (some (.ref fI))) (hb : ∀ self, W.Looks (model prog w) h (bindSpecial (.ref fI) self) (.ref fI, [self]))
    (hq : codeAny (model prog w) A (.call (.ref fI) ⟨[.ref (h.objs.size + 1)], [(f, u)]⟩)
      (fun r s' => match r with | .ok (.ret v) => v = .none ∧ Q (.done (.ret (.ref (h.objs.size + 1)))) s' | .ok _ => False | .error e => E e s')
      ⟨(h.push (W.kdv_tup [])).push (excO C h.objs.size), g, d, t, os⟩) :
    wpAny (model prog w) A (Builtin.«type.__call__» ⟨[.ref C], [(f, u)]⟩) Q E ⟨h, g, d, t, os⟩ := by
  repeat (first | with_reducible refine wpAny_loadPart_at hC ?_ | with_reducible refine wpAny_madeBy_exc hC ?_ | wp_step)
  refine codeAny_call_builtin_code (Code.quiet_builtin _ F.quiet) (check_new_kw F hT hC ?_)
  refine new_kw F hT hC ?_
  show wpAny _ _ _ _ _ _
  have k : ∀ b o, h.get? b = some o → ((h.push (W.kdv_tup [])).push (excO C h.objs.size)).get? b = some o := fun b o e => Heap.get?_push_of_some _ (Heap.get?_push_of_some _ e)
  have hC₁ := k _ _ hC
  have hget : ((h.push (W.kdv_tup [])).push (excO C h.objs.size)).get? (h.objs.size + 1) = some (excO C h.objs.size) := by heap_get
  have hcC : (Value.ref C :: bm).contains (.ref C) = true := by simp
  have i1 := hi.keeps k
  have b1 := (hb (.ref (h.objs.size + 1))).keeps k
  unfold isInstance
  repeat (first | with_reducible refine wpAny_loadPart_at hget ?_ | (with_reducible refine wpAny_isSubtype_exc hC₁ ?_; rw [hcC]) | wp_step)
  show wpAny _ _ (typeLookup (.ref C) _) _ _ _
  refine i1.at ?_
  refine wpAny_holding (wpAny_bind (b1.at ?_))
  refine wpAny_bind (wpAny_call (codeAny_mono hq fun r s' z => ?_))
  rcases r with e | (v | _ | _ | _) <;> first | exact z | exact z.elim | skip
  obtain ⟨rfl, z⟩ := z
  first
    | exact wpAny_pure (wpAny_pure z)
    | (wp_walk; exact z)
theorem call_kw (F : ExcBaseFacts B newId initId bmB) (hT : ∀ X : String, bm.contains (.type X) = bmB.contains (.type X)) {fI : Addr}
    (hC : h.get? C = some (excClassObj nm q C N bs bm hdct sn sub ab col dd k0 k1 k2 k3 k5 newId))
    (hi : W.Looks (model prog w) h (typeLookup (.ref C) "__init__") (some (.ref fI))) (hb : ∀ self, W.Looks (model prog w) h (bindSpecial (.ref fI) self) (.ref fI, [self]))
    (hq : codeAny (model prog w) (A.under (.builtin "type.__call__" ⟨[.ref C], [(f, u)]⟩)) (.call (.ref fI) ⟨[.ref (h.objs.size + 1)], [(f, u)]⟩) (W.InitBack (h.objs.size + 1) R)
      ⟨(h.push (W.kdv_tup [])).push (excO C h.objs.size), g, d, t, os⟩) :
    codeAny (model prog w) A (.call (.ref C) ⟨[], [(f, u)]⟩) R ⟨h, g, d, t, os⟩ := by
  have f1 := tc_lookup
  have f2 := tc_bind (.ref C)
  have hTy : (⟨h, g, d, t, os⟩ : Shared).TypeIs (.ref C) "type" := ⟨_, hC, rfl⟩
  refine codeAny_of_tree ?_
  show wpAny _ _ (callAny (.ref C) _) _ _ _
  repeat (any_goals (first | assumption | with_reducible refine wpAny_loadPart_at hC ?_ | wp_step))
  refine ⟨rfl, ?_⟩
  refine codeAny_call_builtin_at (Code.quiet_builtin _ (by decide +kernel)) entry_typeCall (check_call_kw hC (type_call_kw F hT hC hi hb ?_))
  refine codeAny_mono hq fun r s' z => ?_
  rcases r with e | (v | _ | _ | _) <;> exact z
end
section
variable {X : Cx} {pins : List (Addr × Obj)} {σ : L2.St} {H : Hp} {s : Shared} {C : Addr} {fld x : Str} {v : V} {u : Value} {e : Expr} {te : TE} {p pos : Pos}
/-- the class's __init__ takes its field by name -/
structure XIk (X : Cx) (C : Addr) (fld : Str) : Prop where
  T : XC X.K C
  no : PySem.W.findIn X.K (.ref C) fld = some none
  ini : ∃ (fI : Addr) (fd : FuncData), PySem.W.findIn X.K (.ref C) "__init__" = some (some (.ref fI)) ∧ PySem.W.typeIn X.K (.ref fI) = some (.type "function") ∧
    (∀ (s : Shared) (a u : Value), BindsTo s fd ⟨[a], [(fld, u)]⟩ [("self", a), (fld, u)]) ∧ FnOk X.prog X.w X.K X.mg X.base CX0 1 fI fd ["self", fld] (spXI X.K fld)
theorem run_kw {R : Result → Shared → Prop} (T : XIk X C fld) (hr : Room 2 X.A) (I : Inv X pins σ H s) (rv : RelV v u) {Q1 : VK}
    (hq1 : ∀ d, H d = none → d ≠ s.heap.objs.size + 1 → Q1 .non (upd (upd H (s.heap.objs.size + 1) (exo (s.heap.objs.size + 1) C (some d))) d (exd d [(fld, v)])))
    (hR : ∀ s', CE X.stack X.prog X.w (upd H (s.heap.objs.size + 1) (exo (s.heap.objs.size + 1) C none)) { s with heap := xHeap s.heap [] C } Q1 .none s' → R (.ok (.ret (.ref (s.heap.objs.size + 1)))) s')
    (hQn : ∀ v' H', Q1 v' H' → v' = .non) : codeAny (model X.prog X.w) X.A (.call (.ref C) ⟨[], [(fld, u)]⟩) R s := by
  obtain ⟨hn, kk, I2⟩ := inv_start_x (C := C) I []
  obtain ⟨fI, fd, iC, tI, hb, F1⟩ := T.ini
  obtain ⟨B, newId, initId, bmB, fb, sf, ii, ov⟩ := T.T.base
  obtain ⟨nm, N, qn, bs, bm, hdct, sn, sub, ab, col, dd, k0, k1, k2, k3, k5, hC, hT⟩ := PySem.W.excInit_of I.kIn ii
  have hsp : spXI X.K fld [V.ref (s.heap.objs.size + 1), v] (upd H (s.heap.objs.size + 1) (exo (s.heap.objs.size + 1) C none)) Q1 E0 := by
    refine ⟨_, C, v, rfl, T.T, T.no, upd_same, fun d hd hne => ?_⟩
    rw [upd2]
    exact hq1 d (by rwa [upd_ne hne] at hd) hne
  obtain ⟨h0, g, dr, tk, os⟩ := s
  refine call_kw fb hT hC (PySem.W.looks_findIn I.kIn iC) (fun self => PySem.W.bind_fn I.kIn self tI)
    (codeAny_mono (F1.run _ X.stack _ _ ⟨[Value.ref (h0.objs.size + 1)], [(fld, u)]⟩ [Value.ref (h0.objs.size + 1), u] [V.ref (h0.objs.size + 1), v] Q1 E0 (hr.make C [] [(fld, u)]) (I2.env0.make C [] [(fld, u)]) (hb _ _ _) (.cons (show L2.RelV (V.ref (h0.objs.size + 1)) (Value.ref (h0.objs.size + 1)) from rfl) (.cons rv .nil)) hsp) fun r s' hq' => ?_)
  cases r with
  | error er => exact (show False from hq').elim
  | ok fl =>
    cases fl with
    | ret u' =>
      have hq2 := hq'
      obtain ⟨v', H', os', bare', un', hok', rv', q'⟩ := hq'
      have ev := hQn _ _ q'
      subst ev
      cases rv'
      exact ⟨rfl, hR s' hq2⟩
    | next => exact False.elim hq'
    | brk => exact False.elim hq'
    | cont => exact False.elim hq'
/-- C(f = e), as a value -/
theorem pe_xmkK {kws : List Keyword} {tk : TA} (T : XIk X C fld) (hr : Room 2 X.A) (hg : Gl X x) (hm : X.mg x = some (.ref C)) (hkw : PK X kws tk) (hdb : (x == ("__debug__" : Str)) = false := by decide)
    (hall : (backToKw pos (keywordEach kws X.env)).all (·.1.isSome) = true := by rfl) (hks : (backToKw pos (keywordEach kws X.env)).filterMap (·.1) = [fld] := by rfl)
    (hpl : ((backTo pos (starEach [] X.env)).any (·.1) || (backToKw pos (keywordEach kws X.env)).any (·.1.isNone)) = false := by rfl) : PE X (.Call (.Name x p) [] kws pos) (tXmk C fld tk) := by
  refine ⟨fun pins s σ H Q I h => ?_⟩
  refine wpAny_Call_Name_kw (ld_glob I hg hm ?_ hdb)
  refine PySem.W.callWith_KW0 (h₀ := X.base) I.ok.mod.kin T.T.kC hall (thn (hkw.run pos pins s σ H _ I h) fun us s1 ⟨vs, H1, I1, r1, v, ev, q1⟩ => ⟨I1.kIn, ?_⟩) hpl
  rw [hks]
  subst ev
  obtain ⟨u, rfl, ru⟩ := r1.one
  obtain ⟨hn, kk, I2⟩ := inv_start_x (C := C) I1 []
  show wpAny _ _ (call (.ref C) [] [(fld, u)]) _ _ _
  refine wpAny_call (run_kw (Q1 := fun v' H' => v' = .non ∧ Q (.ref (s1.heap.objs.size + 1)) H') T hr I1 ru (fun d hd hne => ⟨rfl, q1 _ d hn hd hne⟩) (fun s' c => ?_) fun v' H' q => q.1)
  obtain ⟨v', H', I3, _, _, q⟩ := I2.after c
  exact ⟨.ref (s1.heap.objs.size + 1), H', I3, rfl, q⟩
end
end Xk
set_option Elab.async false
set_option linter.all false
set_option maxRecDepth 100000
/-! Rp: data that may be shown: how long its text is -/
namespace Rp
open PySem PySem.Spec PyProof.Rows L2
theorem piled_le {b : Nat} : ∀ ts : List Str, (∀ t ∈ ts, t.length ≤ b) → piled ts ≤ (b + 2) * ts.length
  | [], _ => by rw [piled_nil]; exact Nat.zero_le _
  | t :: r, h => by
    have ih := piled_le r fun u hu => h u (List.mem_cons_of_mem _ hu)
    have h1 := h t (List.mem_cons_self ..)
    rw [piled_cons, List.length_cons, Nat.mul_succ]
    omega
theorem listText_le : ∀ ts : List Str, (listText ts).length ≤ piled ts + 2
  | [] => by decide
  | t :: r => by
    have h := textFrom_length_pos r 1 (("[" : Str) ++ (if (0 : Nat) > 0 then ", " else "" : String) ++ t) (Nat.succ_pos 0)
    have e : ((("[" : Str) ++ (if (0 : Nat) > 0 then ", " else "" : String) ++ t)).length = 1 + t.length := by
      rw [strLen_append, strLen_append]; rfl
    have hX : (listText (t :: r)).length = (textFrom 0 "[" (t :: r)).length + 1 := by
      show (textFrom 0 "[" (t :: r) ++ "]").length = _
      rw [strLen_append]; rfl
    have hY : (textFrom 0 "[" (t :: r)).length = (textFrom 1 (("[" : Str) ++ (if (0 : Nat) > 0 then ", " else "" : String) ++ t) r).length := rfl
    rw [hX, hY, h, e, piled_cons]; omega
theorem tupleText_le (ts : List Str) : (tupleText ts).length ≤ piled ts + 3 := by
  unfold tupleText
  rw [strLen_append, strLen_append]
  have e1 : ((("(" : String) : Str)).length = 1 := rfl
  have e3 : (((if ts.length == 1 then ",)" else ")" : String) : Str)).length ≤ 2 := by split <;> decide
  rw [e1]
  by_cases h : ts = []
  · subst h; have : (Str.join ", " ([] : List Str)).length = 0 := rfl
    omega
  · have := join_length_add ts h
    omega
/-- may be shown: at most b signs, nested e deep -/
structure Sh (b e : Nat) (d : PyData) : Prop where
  sh : d.showable = true
  nd : d.hasDict = false
  dp : d.depth ≤ e
  ln : d.shown.length ≤ b
theorem Sh.mono {b e b' e' : Nat} {d : PyData} (h : Sh b e d) (hb : b ≤ b') (he : e ≤ e') : Sh b' e' d := ⟨h.sh, h.nd, Nat.le_trans h.dp he, Nat.le_trans h.ln hb⟩
theorem ofString_len (s : String) : (Str.ofString s).length = s.toList.length := by
  have e := signs_ofString s
  have := congrArg List.length e
  rw [List.length_map, Array.length_toList] at this
  exact this
theorem digits_le {n k : Nat} (hk : 1 ≤ k) (h : n < 10 ^ k) : (Nat.toDigits 10 n).length ≤ k := by
  have := digitsCore_len_pow 10 (by decide) k (n + 1) n [] hk h
  simpa [Nat.toDigits] using this
theorem int_len {z : Int} {k : Nat} (hk : 1 ≤ k) (h : z.natAbs < 10 ^ k) : (Str.ofString (toString z)).length ≤ k + 1 := by
  rw [ofString_len]
  cases z with
  | ofNat m =>
    have e : (toString (Int.ofNat m)).toList = Nat.toDigits 10 m := by
      show (Nat.repr m).toList = _
      rw [Nat.toList_repr]
    rw [e]
    have := digits_le (n := m) hk h
    omega
  | negSucc m =>
    have e : (toString (Int.negSucc m)).toList = '-' :: Nat.toDigits 10 (m + 1) := by
      show ("-" ++ Nat.repr (m + 1)).toList = _
      rw [String.toList_append, Nat.toList_repr]
      rfl
    rw [e]
    have := digits_le (n := m + 1) hk h
    show (Nat.toDigits 10 (m + 1)).length + 1 ≤ _
    omega
theorem log_lt {n k : Nat} (hk : k ≤ 400) (h : n < 10 ^ k) : n.log2 < 1920 := by
  by_cases h0 : n = 0
  · subst h0; decide
  · refine (Nat.log2_lt h0).mpr (Nat.lt_of_lt_of_le h ?_)
    refine Nat.le_trans (Nat.pow_le_pow_left (show 10 ≤ 2 ^ 4 by decide) k) ?_
    rw [← Nat.pow_mul]
    exact Nat.pow_le_pow_right (by decide) (by omega)
theorem Sh.int {z : Int} {k : Nat} (hk : 1 ≤ k) (hk2 : k ≤ 400) (h : z.natAbs < 10 ^ k) : Sh (k + 1) 0 (.int z) := by
  refine ⟨?_, by simp only [PyData.hasDict], by simp only [PyData.depth]; exact Nat.le_refl _, ?_⟩
  · simp only [PyData.showable]
    exact decide_eq_true (log_lt hk2 h)
  · simp only [PyData.shown]
    exact int_len hk h
theorem Sh.none : Sh 4 0 .none := ⟨by simp only [PyData.showable], by simp only [PyData.hasDict], by simp only [PyData.depth]; exact Nat.le_refl _, by simp only [PyData.shown]; decide⟩
theorem Sh.bool {b : Bool} : Sh 5 0 (.bool b) := ⟨by simp only [PyData.showable], by simp only [PyData.hasDict], by simp only [PyData.depth]; exact Nat.le_refl _, by simp only [PyData.shown]; cases b <;> decide⟩
theorem all_sh {b e : Nat} : ∀ xs : List PyData, (∀ x ∈ xs, Sh b e x) → PyData.showableAll xs = true ∧ PyData.hasDictAll xs = false ∧ PyData.depthAll xs ≤ e ∧ (∀ t ∈ PyData.shownAll xs, t.length ≤ b) ∧ (PyData.shownAll xs).length = xs.length
  | [], _ => ⟨by simp only [PyData.showableAll], by simp only [PyData.hasDictAll], by simp only [PyData.depthAll]; exact Nat.zero_le _, by simp only [PyData.shownAll]; exact (fun t ht => absurd ht List.not_mem_nil), by simp only [PyData.shownAll, List.length_nil]⟩
  | x :: xs, h => by
    have hx := h x (List.mem_cons_self ..)
    obtain ⟨h1, h2, h3, h4, h5⟩ := all_sh xs fun u hu => h u (List.mem_cons_of_mem _ hu)
    refine ⟨?_, ?_, ?_, ?_, ?_⟩
    · simp only [PyData.showableAll, hx.sh, h1, Bool.and_self]
    · simp only [PyData.hasDictAll, hx.nd, h2, Bool.or_self]
    · simp only [PyData.depthAll]
      exact Nat.max_le.mpr ⟨hx.dp, h3⟩
    · simp only [PyData.shownAll]
      intro t ht
      rcases List.mem_cons.mp ht with rfl | ht
      · exact hx.ln
      · exact h4 t ht
    · simp only [PyData.shownAll, List.length_cons, h5]
theorem Sh.list {b e : Nat} {xs : List PyData} (h : ∀ x ∈ xs, Sh b e x) : Sh ((b + 2) * xs.length + 2) (e + 1) (.list xs) := by
  obtain ⟨h1, h2, h3, h4, h5⟩ := all_sh xs h
  refine ⟨by simp only [PyData.showable]; exact h1, by simp only [PyData.hasDict]; exact h2, by simp only [PyData.depth]; omega, ?_⟩
  simp only [PyData.shown]
  have := listText_le (PyData.shownAll xs)
  have := piled_le _ h4
  rw [h5] at this
  omega
theorem Sh.tuple {b e : Nat} {xs : List PyData} (h : ∀ x ∈ xs, Sh b e x) : Sh ((b + 2) * xs.length + 3) (e + 1) (.tuple xs) := by
  obtain ⟨h1, h2, h3, h4, h5⟩ := all_sh xs h
  refine ⟨by simp only [PyData.showable]; exact h1, by simp only [PyData.hasDict]; exact h2, by simp only [PyData.depth]; omega, ?_⟩
  simp only [PyData.shown]
  have := tupleText_le (PyData.shownAll xs)
  have := piled_le _ h4
  rw [h5] at this
  omega
theorem Sh.ints {k : Nat} (hk : 1 ≤ k) (hk2 : k ≤ 400) {zs : List Int} (h : ∀ z ∈ zs, z.natAbs < 10 ^ k) : ∀ d ∈ zs.map PyData.int, Sh (k + 1) 0 d := by
  intro d hd
  obtain ⟨z, hz, rfl⟩ := List.mem_map.mp hd
  exact Sh.int hk hk2 (h z hz)
/-- data that may be shown -/
theorem Sh.shw {b e : Nat} {d : PyData} (h : Sh b e d) (he : e ≤ 60) (hb : b ≤ sizeLine) : d.showable = true ∧ d.hasDict = false ∧ d.depth ≤ 60 ∧ d.shown.length ≤ sizeLine := ⟨h.sh, h.nd, Nat.le_trans h.dp he, Nat.le_trans h.ln hb⟩
end Rp
set_option Elab.async false
set_option linter.all false
set_option maxRecDepth 100000
set_option maxHeartbeats 4000000
namespace K04
open PySem L2 Xo
abbrev sInp : Stmt := top 27
abbrev sAbs : Stmt := top 28
abbrev sFau : Stmt := top 29
abbrev sFam : Stmt := top 30
abbrev sCls : Stmt := top 31
/-- a class of errors, as this text has it: the i-th of all -/
structure XE (P : Program) (w : World) (K : PySem.W.Frag) (mg : Str → Option Value) (base : Heap) (CS : List Addr) (name : Str) (C : Addr) (fld : Str) (i : Nat) : Prop where
  g : mg name = some (.ref C)
  T : XC K C
  no : PySem.W.findIn K (.ref C) fld = some none
  xc : ExcC K C
  at_ : CS[i]? = some C
  ini : ∃ (fI : Addr) (fd : FuncData), PySem.W.findIn K (.ref C) "__init__" = some (some (.ref fI)) ∧ PySem.W.typeIn K (.ref fI) = some (.type "function") ∧ Binds K fd ["self", fld] [] ∧
    (∀ (s : Shared) (a u : Value), BindsTo s fd ⟨[a], [(fld, u)]⟩ [("self", a), (fld, u)]) ∧ FnOk P w K mg base CX0 1 fI fd ["self", fld] (spXI K fld)
theorem XE.to {X : Cx} {CS : List Addr} {name : Str} {C : Addr} {fld : Str} {i : Nat} (h : XE X.prog X.w X.K X.mg X.base CS name C fld i) : XI X C fld := by
  obtain ⟨f, fd, h1, h2, h3, h4, h5⟩ := h.ini
  exact ⟨h.T, h.no, f, fd, h1, h2, h3, h5⟩
theorem XE.tok {X : Cx} {CS : List Addr} {name : Str} {C : Addr} {fld : Str} {i : Nat} (h : XE X.prog X.w X.K X.mg X.base CS name C fld i) : Xk.XIk X C fld := by
  obtain ⟨f, fd, h1, h2, h3, h4, h5⟩ := h.ini
  exact ⟨h.T, h.no, f, fd, h1, h2, h4, h5⟩
/-- the values that are drawn -/
inductive Val (H : Hp) : V → Prop
  | int (n : Int) (h : n.natAbs < 10 ^ 12) : Val H (.int n)
  | non : Val H .non
  | a : Val H (.str "a")
  | held : Val H (.str "the table is held")
  | tup {p : Addr} (h : H p = some (.tup [.int 1, .int 2])) : Val H (.ref p)
theorem Val.same {H H' : Hp} {v : V} (h : Val H v) (s : Same H H') : Val H' v := by
  cases h with
  | int n h => exact .int n h
  | non => exact .non
  | a => exact .a
  | held => exact .held
  | tup h => exact .tup (s _ _ h)
theorem xat_same {H H' : Hp} {a C d : Addr} {fs : List (Str × V)} (h : XAt H a C d fs) (s : Same H H') : XAt H' a C d fs := ⟨h.1.elim (fun z => .inl (s _ _ z)) fun z => .inr (s _ _ z), h.2.elim (fun z => .inl (s _ _ z)) fun z => .inr (s _ _ z)⟩
/-- an error of the i-th class stands at a -/
structure ErrAt (K : PySem.W.Frag) (CS : List Addr) (H : Hp) (a : Addr) (i : Nat) : Prop where
  ex : ∃ (C d : Addr) (fs : List (Str × V)), CS[i]? = some C ∧ XAt H a C d fs ∧ ExcC K C
theorem ErrAt.same {K : PySem.W.Frag} {CS : List Addr} {H H' : Hp} {a : Addr} {i : Nat} (h : ErrAt K CS H a i) (s : Same H H') : ErrAt K CS H' a i := by
  obtain ⟨C, d, fs, h1, h2, h3⟩ := h.ex
  exact ⟨C, d, fs, h1, xat_same h2 s, h3⟩
/-- a pair of such an error and its field -/
def PairAt (K : PySem.W.Frag) (CS : List Addr) (H : Hp) (v : V) (t : V) (i : Nat) : Prop := ∃ p a : Addr, t = .ref p ∧ H p = some (.tup [.ref a, v]) ∧ ErrAt K CS H a i
theorem PairAt.same {K : PySem.W.Frag} {CS : List Addr} {H H' : Hp} {v t : V} {i : Nat} (h : PairAt K CS H v t i) (s : Same H H') : PairAt K CS H' v t i := by
  obtain ⟨p, a, h1, h2, h3⟩ := h
  exact ⟨p, a, h1, s _ _ h2, h3.same s⟩
/-- a row of pairs, from the lo-th class on -/
inductive Pairs (K : PySem.W.Frag) (CS : List Addr) (H : Hp) (v : V) : Nat → List V → Prop
  | nil (lo : Nat) : Pairs K CS H v lo []
  | cons {lo : Nat} {t : V} {ts : List V} (h : PairAt K CS H v t lo) (r : Pairs K CS H v (lo + 1) ts) : Pairs K CS H v lo (t :: ts)
theorem Pairs.same {K : PySem.W.Frag} {CS : List Addr} {H H' : Hp} {v : V} {lo : Nat} {ts : List V} (h : Pairs K CS H v lo ts) (s : Same H H') : Pairs K CS H' v lo ts := by
  induction h with
  | nil lo => exact .nil lo
  | cons h r ih => exact .cons (h.same s) ih
theorem Pairs.get {K : PySem.W.Frag} {CS : List Addr} {H : Hp} {v : V} {lo : Nat} {ts : List V} (h : Pairs K CS H v lo ts) : ∀ {j : Nat} {t : V}, ts[j]? = some t → PairAt K CS H v t (lo + j) := by
  induction h with
  | nil lo => intro j t e; simp at e
  | cons h r ih =>
    intro j t e
    cases j with
    | zero => cases e; exact h
    | succ j =>
      rw [List.getElem?_cons_succ] at e
      have := ih e
      rwa [Nat.add_right_comm, Nat.add_assoc] at this
theorem Pairs.app {K : PySem.W.Frag} {CS : List Addr} {H : Hp} {v : V} {lo : Nat} {ts us : List V} (h : Pairs K CS H v lo ts) : Pairs K CS H v (lo + ts.length) us → Pairs K CS H v lo (ts ++ us) := by
  induction h with
  | nil lo => exact fun z => z
  | cons h r ih =>
    intro z
    refine .cons h (ih ?_)
    rwa [List.length_cons, Nat.add_comm _ 1, ← Nat.add_assoc] at z
theorem xat_put {H : Hp} {a C d r : Addr} {fs : List (Str × V)} {us ws : List V} (h : XAt H a C d fs) (hr : H r = some (.lst us)) : XAt (upd H r (.lst ws)) a C d fs := by
  refine ⟨h.1.elim (fun z => .inl ?_) fun z => .inr ?_, h.2.elim (fun z => .inl ?_) fun z => .inr ?_⟩
  all_goals
    rw [upd_ne (ne_of z hr (by intro q; cases q))]
    exact z
theorem PairAt.put {K : PySem.W.Frag} {CS : List Addr} {H : Hp} {v t : V} {i : Nat} {r : Addr} {us ws : List V} (h : PairAt K CS H v t i) (hr : H r = some (.lst us)) : PairAt K CS (upd H r (.lst ws)) v t i := by
  obtain ⟨p, a, h1, h2, C, d, fs, h3, h4, h5⟩ := h
  refine ⟨p, a, h1, ?_, C, d, fs, h3, xat_put h4 hr, h5⟩
  rw [upd_ne (ne_of h2 hr (by intro q; cases q))]
  exact h2
theorem Pairs.put {K : PySem.W.Frag} {CS : List Addr} {H : Hp} {v : V} {lo : Nat} {ts : List V} {r : Addr} {us ws : List V} (h : Pairs K CS H v lo ts) (hr : H r = some (.lst us)) : Pairs K CS (upd H r (.lst ws)) v lo ts := by
  induction h with
  | nil lo => exact .nil lo
  | cons h r ih => exact .cons (h.put hr) ih
/-- a row under way, at r -/
structure Rw (K : PySem.W.Frag) (CS : List Addr) (H0 H : Hp) (r : Addr) (v : V) (lo : Nat) (ts : List V) : Prop where
  sm : Same H0 H
  nw : H0 r = none
  ls : H r = some (.lst ts)
  ps : Pairs K CS H v lo ts
section
variable {K : PySem.W.Frag} {CS : List Addr} {H0 H H' : Hp} {r : Addr} {v t : V} {lo : Nat} {ts us : List V}
theorem Rw.same (R : Rw K CS H0 H r v lo ts) (s : Same H H') : Rw K CS H0 H' r v lo ts := ⟨R.sm.trans s, R.nw, s _ _ R.ls, R.ps.same s⟩
theorem Rw.put (R : Rw K CS H0 H r v lo ts) (h : PairAt K CS H v t (lo + ts.length)) : Rw K CS H0 (upd H r (.lst (ts ++ [t]))) r v lo (ts ++ [t]) :=
  ⟨fun b o e => by rw [upd_ne (ne_of_none e R.nw)]; exact R.sm _ _ e, R.nw, upd_same, (R.ps.put R.ls).app (.cons (h.put R.ls) (.nil _))⟩
theorem Rw.cat (R : Rw K CS H0 H r v lo ts) {q : Addr} (hq : H q = none) (h : Pairs K CS H v (lo + ts.length) us) : Rw K CS H0 (upd H q (.lst (ts ++ us))) q v lo (ts ++ us) :=
  ⟨R.sm.trans (same_new hq), R.sm.free hq, upd_same, (R.ps.app h).same (same_new hq)⟩
end
section
variable {P : Program} {w : World} {K : PySem.W.Frag} {mg : Str → Option Value} {base : Heap}
/-- (C(value), C(f = value).f) -/
abbrev tPair (K : PySem.W.Frag) (C : Addr) (fld : Str) : TE := tTup (tCons (tXmk C fld (tCons (tVar 0) tNil)) (tCons (tXfld K fld (tXmk C fld (tCons (tVar 0) tNil))) tNil))
theorem pair_rd {CS : List Addr} {name fld : Str} {C : Addr} {i : Nat} {σ : L2.St} {H : Hp} {Q : VK} {v : V} (E : XE P w K mg base CS name C fld i) (h0 : σ[0]? = some (some v)) (k : ∀ t H', Same H H' → PairAt K CS H' v t i → Q t H') : tPair K C fld σ H Q := by
  refine ⟨v, h0, v, rfl, fun a d ha hd hne => ?_⟩
  have s1 : Same H (upd (upd H a (exo a C (some d))) d (exd d [(fld, v)])) := fun b o e => by
    rw [upd_ne (ne_of_none e hd), upd_ne (ne_of_none e ha)]
    exact e
  have x1 : XAt (upd (upd H a (exo a C (some d))) d (exd d [(fld, v)])) a C d [(fld, v)] := ⟨.inl (by rw [upd_ne hne.symm]; exact upd_same), .inl upd_same⟩
  generalize upd (upd H a (exo a C (some d))) d (exd d [(fld, v)]) = H1 at s1 x1 ⊢
  refine ⟨v, h0, v, rfl, fun a2 d2 ha2 hd2 hne2 => ?_⟩
  have s2 : Same H1 (upd (upd H1 a2 (exo a2 C (some d2))) d2 (exd d2 [(fld, v)])) := fun b o e => by
    rw [upd_ne (ne_of_none e hd2), upd_ne (ne_of_none e ha2)]
    exact e
  have x2 : XAt (upd (upd H1 a2 (exo a2 C (some d2))) d2 (exd d2 [(fld, v)])) a2 C d2 [(fld, v)] := ⟨.inl (by rw [upd_ne hne2.symm]; exact upd_same), .inl upd_same⟩
  generalize upd (upd H1 a2 (exo a2 C (some d2))) d2 (exd d2 [(fld, v)]) = H2 at s2 x2 ⊢
  refine ⟨a2, C, d2, _, v, rfl, x2, E.T, E.no, by simp [List.lookup], by show 2 ≤ sizeLine; decide, fun t ht => ?_⟩
  have s3 := same_new (o := .tup [.ref a, v]) ht
  exact k _ _ (s1.trans (s2.trans s3)) ⟨t, a, rfl, upd_same, C, d, _, E.at_, xat_same x1 (s2.trans s3), E.xc⟩
theorem pe_pair {X : Cx} {CS : List Addr} {name fld : Str} {C : Addr} {i : Nat} {p1 p2 p3 p4 p5 p6 p7 p8 : Pos} {kk : Nat} (E : XE X.prog X.w X.K X.mg X.base CS name C fld i) (hr : Room 2 X.A) (hN : X.N[0]? = some ("value" : Str)) (hv : Vis X.env.scope "value") (hg : Gl X name)
    (hall : (backToKw p8 (keywordEach [⟨some fld, .Name "value" p7, p6⟩] X.env)).all (·.1.isSome) = true) : True := trivial
def spRow (K : PySem.W.Frag) (CS : List Addr) (lo n : Nat) : Sp := fun vs H Q _ => ∃ v : V, vs = [v] ∧ ∀ r ts H', Same H H' → H' r = some (.lst ts) → ts.length = n → Pairs K CS H' v lo ts → Q (.ref r) H'
theorem scInp : FnScope ["value", "found"] ["value"] (defScope sInp) := ⟨rfl, rfl, rfl, by decide +kernel, rfl, by decide +kernel, by decide +kernel⟩
theorem ok_inp {f c0 c1 c2 c3 c4 c5 c6 c7 : Addr} {fd : FuncData} {CS : List Addr} (D : Df K mg "_law_input_errors" "_law_input_errors" sInp ["value"] f fd) (E0 : XE P w K mg base CS "BadKey" c0 "reason" 0) (E1 : XE P w K mg base CS "BadCode" c1 "reason" 1) (E2 : XE P w K mg base CS "BadSize" c2 "reason" 2) (E3 : XE P w K mg base CS "BadStep" c3 "index" 3)
    (E4 : XE P w K mg base CS "BadPicture" c4 "index" 4) (E5 : XE P w K mg base CS "BadPairs" c5 "index" 5) (E6 : XE P w K mg base CS "BadView" c6 "reason" 6) (E7 : XE P w K mg base CS "BadLayout" c7 "fault" 7) : FnOk P w K mg base CX0 3 f fd ["value"] (spRow K CS 0 8) := by
  refine D.F.ok scInp (fun vs H Q E h => ?_) (fun cdv A outer s H vs Q E hr h => ?_)
  · obtain ⟨v, rfl, _⟩ := h
    rfl
  · obtain ⟨v, rfl, k⟩ := h
    refine ⟨_, pss_cons (ps_set (i := 1) scInp.nd rfl (Or.inl rfl) (pe_lst (pa_cons (pe_tup (pa_cons (pe_xmk (XE.to E0) hr rfl E0.g (pa_cons (pv 0) pa_nil)) (pa_cons (pe_xfld (Xk.pe_xmkK (XE.tok E0) hr rfl E0.g (pk_cons (pv 0) pk_nil))) pa_nil))) (pa_cons (pe_tup (pa_cons (pe_xmk (XE.to E1) hr rfl E1.g (pa_cons (pv 0) pa_nil)) (pa_cons (pe_xfld (Xk.pe_xmkK (XE.tok E1) hr rfl E1.g (pk_cons (pv 0) pk_nil))) pa_nil))) pa_nil))))
      (pss_cons (ps_set (i := 1) scInp.nd rfl (Or.inl rfl) (pe_op op_cat (pv 1) (pe_lst (pa_cons (pe_tup (pa_cons (pe_xmk (XE.to E2) hr rfl E2.g (pa_cons (pv 0) pa_nil)) (pa_cons (pe_xfld (Xk.pe_xmkK (XE.tok E2) hr rfl E2.g (pk_cons (pv 0) pk_nil))) pa_nil))) (pa_cons (pe_tup (pa_cons (pe_xmk (XE.to E3) hr rfl E3.g (pa_cons (pv 0) pa_nil)) (pa_cons (pe_xfld (Xk.pe_xmkK (XE.tok E3) hr rfl E3.g (pk_cons (pv 0) pk_nil))) pa_nil))) pa_nil)))))
      (pss_cons (ps_expr (pe_bm PySem.F.plainAttrs_list PySem.F.slot_list_append PySem.F.type_list_append mt_append (pv 1) (pa_cons (pe_tup (pa_cons (pe_xmk (XE.to E4) hr rfl E4.g (pa_cons (pv 0) pa_nil)) (pa_cons (pe_xfld (Xk.pe_xmkK (XE.tok E4) hr rfl E4.g (pk_cons (pv 0) pk_nil))) pa_nil))) pa_nil)))
      (pss_cons (ps_expr (pe_bm PySem.F.plainAttrs_list PySem.F.slot_list_append PySem.F.type_list_append mt_append (pv 1) (pa_cons (pe_tup (pa_cons (pe_xmk (XE.to E5) hr rfl E5.g (pa_cons (pv 0) pa_nil)) (pa_cons (pe_xfld (Xk.pe_xmkK (XE.tok E5) hr rfl E5.g (pk_cons (pv 0) pk_nil))) pa_nil))) pa_nil)))
      (pss_cons (ps_expr (pe_bm PySem.F.plainAttrs_list PySem.F.slot_list_append PySem.F.type_list_append mt_append (pv 1) (pa_cons (pe_tup (pa_cons (pe_xmk (XE.to E6) hr rfl E6.g (pa_cons (pv 0) pa_nil)) (pa_cons (pe_xfld (Xk.pe_xmkK (XE.tok E6) hr rfl E6.g (pk_cons (pv 0) pk_nil))) pa_nil))) pa_nil)))
      (pss_one (ps_ret (pe_op op_cat (pv 1) (pe_lst (pa_cons (pe_tup (pa_cons (pe_xmk (XE.to E7) hr rfl E7.g (pa_cons (pv 0) pa_nil)) (pa_cons (pe_xfld (Xk.pe_xmkK (XE.tok E7) hr rfl E7.g (pk_cons (pv 0) pk_nil))) pa_nil))) pa_nil))))))))), ?_⟩
    simp only [tSeq, tAsg, tLst, tCons]
    refine pair_rd E0 (by rfl) fun t0 H0 s0 p0 => ?_
    refine pair_rd E1 (by rfl) fun t1 H1 s1 p1 => ?_
    refine ⟨by show 2 ≤ sizeLine; decide, fun r hr1 => ?_⟩
    have R1 : Rw K CS H (upd H1 r (.lst [t0, t1])) r v 0 [t0, t1] := ⟨(s0.trans s1).trans (same_new hr1), (s0.trans s1).free hr1, upd_same, .cons ((p0.same s1).same (same_new hr1)) (.cons (p1.same (same_new hr1)) (.nil _))⟩
    generalize upd H1 r (.lst [t0, t1]) = H2 at R1 ⊢
    -- two more
    refine ⟨_, rfl, ?_⟩
    simp only [tLst, tCons]
    refine pair_rd E2 (by rfl) fun t2 H3 s3 p2 => ?_
    refine pair_rd E3 (by rfl) fun t3 H4 s4 p3 => ?_
    refine ⟨by show 2 ≤ sizeLine; decide, fun l hl => ?_⟩
    have s5 := same_new (o := .lst [t2, t3]) hl
    have R2 := ((R1.same s3).same s4).same s5
    refine ⟨r, l, _, _, rfl, rfl, R2.ls, upd_same, by show 4 ≤ sizeLine; decide, fun q hq => ?_⟩
    have R3 := R2.cat hq (us := [t2, t3]) (.cons ((p2.same s4).same s5) (.cons (p3.same s5) (.nil _)))
    generalize upd (upd H4 l (.lst [t2, t3])) q (.lst ([t0, t1] ++ [t2, t3])) = H5 at R3 ⊢
    -- three, one by one
    refine ⟨_, rfl, .inl ⟨rfl, _, SqL.of R3.ls⟩, ?_⟩
    simp only [tCons]
    refine pair_rd E4 (by rfl) fun t4 H6 s6 p4 => ?_
    have R4 := R3.same s6
    refine ⟨q, _, _, rfl, rfl, R4.ls, by show 4 < sizeLine; decide, ?_⟩
    have R5 := R4.put p4
    change tSeq _ _ _ _ (upd H6 q (.lst (([t0, t1] ++ [t2, t3]) ++ [t4])))
    generalize upd H6 q (.lst (([t0, t1] ++ [t2, t3]) ++ [t4])) = H7 at R5 ⊢
    refine ⟨_, rfl, .inl ⟨rfl, _, SqL.of R5.ls⟩, ?_⟩
    simp only [tCons]
    refine pair_rd E5 (by rfl) fun t5 H8 s8 p5 => ?_
    have R6 := R5.same s8
    refine ⟨q, _, _, rfl, rfl, R6.ls, by show 5 < sizeLine; decide, ?_⟩
    have R7 := R6.put p5
    change tSeq _ _ _ _ (upd H8 q (.lst ((([t0, t1] ++ [t2, t3]) ++ [t4]) ++ [t5])))
    generalize upd H8 q (.lst ((([t0, t1] ++ [t2, t3]) ++ [t4]) ++ [t5])) = H9 at R7 ⊢
    refine ⟨_, rfl, .inl ⟨rfl, _, SqL.of R7.ls⟩, ?_⟩
    simp only [tCons]
    refine pair_rd E6 (by rfl) fun t6 H10 s10 p6 => ?_
    have R8 := R7.same s10
    refine ⟨q, _, _, rfl, rfl, R8.ls, by show 6 < sizeLine; decide, ?_⟩
    have R9 := R8.put p6
    change tRet _ _ _ (upd H10 q (.lst (((([t0, t1] ++ [t2, t3]) ++ [t4]) ++ [t5]) ++ [t6])))
    generalize upd H10 q (.lst (((([t0, t1] ++ [t2, t3]) ++ [t4]) ++ [t5]) ++ [t6])) = H11 at R9 ⊢
    refine ⟨_, rfl, ?_⟩
    simp only [tLst, tCons]
    refine pair_rd E7 (by rfl) fun t7 H12 s12 p7 => ?_
    refine ⟨by show 1 ≤ sizeLine; decide, fun l2 hl2 => ?_⟩
    have s13 := same_new (o := .lst [t7]) hl2
    have R10 := (R9.same s12).same s13
    refine ⟨q, l2, _, _, rfl, rfl, R10.ls, upd_same, by show 8 ≤ sizeLine; decide, fun z hz => ?_⟩
    have R11 := R10.cat hz (us := [t7]) (.cons (p7.same s13) (.nil _))
    exact k _ _ _ R11.sm R11.ls rfl R11.ps
end
end K04
set_option Elab.async false
set_option linter.all false
set_option maxRecDepth 100000
set_option maxHeartbeats 4000000
namespace K04
open PySem L2 Xo
section
variable {P : Program} {w : World} {K : PySem.W.Frag} {mg : Str → Option Value} {base : Heap}
theorem scAbs : FnScope ["value", "found"] ["value"] (defScope sAbs) := ⟨rfl, rfl, rfl, by decide +kernel, rfl, by decide +kernel, by decide +kernel⟩
theorem scFau : FnScope ["value", "found"] ["value"] (defScope sFau) := ⟨rfl, rfl, rfl, by decide +kernel, rfl, by decide +kernel, by decide +kernel⟩
theorem ok_abs {f c0 c1 c2 : Addr} {fd : FuncData} {CS : List Addr} (D : Df K mg "_law_absences" "_law_absences" sAbs ["value"] f fd) (E0 : XE P w K mg base CS "Missing" c0 "key" 8) (E1 : XE P w K mg base CS "Empty" c1 "reason" 9) (E2 : XE P w K mg base CS "NoEntry" c2 "index" 10) : FnOk P w K mg base CX0 3 f fd ["value"] (spRow K CS 8 3) := by
  refine D.F.ok scAbs (fun vs H Q E h => ?_) (fun cdv A outer s H vs Q E hr h => ?_)
  · obtain ⟨v, rfl, _⟩ := h
    rfl
  · obtain ⟨v, rfl, k⟩ := h
    refine ⟨_, pss_cons (ps_set (i := 1) scAbs.nd rfl (Or.inl rfl) (pe_lst (pa_cons (pe_tup (pa_cons (pe_xmk (XE.to E0) hr rfl E0.g (pa_cons (pv 0) pa_nil)) (pa_cons (pe_xfld (Xk.pe_xmkK (XE.tok E0) hr rfl E0.g (pk_cons (pv 0) pk_nil))) pa_nil))) (pa_cons (pe_tup (pa_cons (pe_xmk (XE.to E1) hr rfl E1.g (pa_cons (pv 0) pa_nil)) (pa_cons (pe_xfld (Xk.pe_xmkK (XE.tok E1) hr rfl E1.g (pk_cons (pv 0) pk_nil))) pa_nil))) pa_nil)))) (pss_one (ps_ret (pe_op op_cat (pv 1) (pe_lst (pa_cons (pe_tup (pa_cons (pe_xmk (XE.to E2) hr rfl E2.g (pa_cons (pv 0) pa_nil)) (pa_cons (pe_xfld (Xk.pe_xmkK (XE.tok E2) hr rfl E2.g (pk_cons (pv 0) pk_nil))) pa_nil))) pa_nil))))), ?_⟩
    simp only [tSeq, tAsg, tLst, tCons]
    refine pair_rd E0 (by rfl) fun t0 H0 s0 p0 => ?_
    refine pair_rd E1 (by rfl) fun t1 H1 s1 p1 => ?_
    refine ⟨by show 2 ≤ sizeLine; decide, fun r hr1 => ?_⟩
    have R0 : Rw K CS H (upd H1 r (.lst [t0, t1])) r v 8 [t0, t1] := ⟨(s0.trans s1).trans (same_new hr1), (s0.trans s1).free hr1, upd_same, .cons ((p0.same s1).same (same_new hr1)) (.cons (p1.same (same_new hr1)) (.nil _))⟩
    generalize upd H1 r (.lst [t0, t1]) = Ha0 at R0 ⊢
    refine ⟨_, rfl, ?_⟩
    simp only [tLst, tCons]
    refine pair_rd E2 (by rfl) fun t2 Hz sz pz => ?_
    refine ⟨by show 1 ≤ sizeLine; decide, fun l2 hl2 => ?_⟩
    have s13 := same_new (o := .lst [t2]) hl2
    have R10 := (R0.same sz).same s13
    refine ⟨r, l2, _, _, rfl, rfl, R10.ls, upd_same, by show 3 ≤ sizeLine; decide, fun z hz => ?_⟩
    have R11 := R10.cat hz (us := [t2]) (.cons (pz.same s13) (.nil _))
    exact k _ _ _ R11.sm R11.ls rfl R11.ps
theorem ok_fau {f c0 c1 c2 c3 c4 c5 c6 c7 : Addr} {fd : FuncData} {CS : List Addr} (D : Df K mg "_law_faults" "_law_faults" sFau ["value"] f fd) (E0 : XE P w K mg base CS "CodeFault" c0 "label" 11) (E1 : XE P w K mg base CS "MatchFault" c1 "label" 12) (E2 : XE P w K mg base CS "Unsettled" c2 "limit" 13) (E3 : XE P w K mg base CS "Locked" c3 "reason" 14) (E4 : XE P w K mg base CS "NotHeld" c4 "reason" 15) (E5 : XE P w K mg base CS "ChangedSize" c5 "expected" 16) (E6 : XE P w K mg base CS "ChangedKeys" c6 "reason" 17) (E7 : XE P w K mg base CS "TooLarge" c7 "limit" 18) : FnOk P w K mg base CX0 3 f fd ["value"] (spRow K CS 11 8) := by
  refine D.F.ok scFau (fun vs H Q E h => ?_) (fun cdv A outer s H vs Q E hr h => ?_)
  · obtain ⟨v, rfl, _⟩ := h
    rfl
  · obtain ⟨v, rfl, k⟩ := h
    refine ⟨_, pss_cons (ps_set (i := 1) scFau.nd rfl (Or.inl rfl) (pe_lst (pa_cons (pe_tup (pa_cons (pe_xmk (XE.to E0) hr rfl E0.g (pa_cons (pv 0) pa_nil)) (pa_cons (pe_xfld (Xk.pe_xmkK (XE.tok E0) hr rfl E0.g (pk_cons (pv 0) pk_nil))) pa_nil))) (pa_cons (pe_tup (pa_cons (pe_xmk (XE.to E1) hr rfl E1.g (pa_cons (pv 0) pa_nil)) (pa_cons (pe_xfld (Xk.pe_xmkK (XE.tok E1) hr rfl E1.g (pk_cons (pv 0) pk_nil))) pa_nil))) pa_nil)))) (pss_cons (ps_set (i := 1) scFau.nd rfl (Or.inl rfl) (pe_op op_cat (pv 1) (pe_lst (pa_cons (pe_tup (pa_cons (pe_xmk (XE.to E2) hr rfl E2.g (pa_cons (pv 0) pa_nil)) (pa_cons (pe_xfld (Xk.pe_xmkK (XE.tok E2) hr rfl E2.g (pk_cons (pv 0) pk_nil))) pa_nil))) (pa_cons (pe_tup (pa_cons (pe_xmk (XE.to E3) hr rfl E3.g (pa_cons (pv 0) pa_nil)) (pa_cons (pe_xfld (Xk.pe_xmkK (XE.tok E3) hr rfl E3.g (pk_cons (pv 0) pk_nil))) pa_nil))) pa_nil))))) (pss_cons (ps_expr (pe_bm PySem.F.plainAttrs_list PySem.F.slot_list_append PySem.F.type_list_append mt_append (pv 1) (pa_cons (pe_tup (pa_cons (pe_xmk (XE.to E4) hr rfl E4.g (pa_cons (pv 0) pa_nil)) (pa_cons (pe_xfld (Xk.pe_xmkK (XE.tok E4) hr rfl E4.g (pk_cons (pv 0) pk_nil))) pa_nil))) pa_nil))) (pss_cons (ps_expr (pe_bm PySem.F.plainAttrs_list PySem.F.slot_list_append PySem.F.type_list_append mt_append (pv 1) (pa_cons (pe_tup (pa_cons (pe_xmk (XE.to E5) hr rfl E5.g (pa_cons (pv 0) pa_nil)) (pa_cons (pe_xfld (Xk.pe_xmkK (XE.tok E5) hr rfl E5.g (pk_cons (pv 0) pk_nil))) pa_nil))) pa_nil))) (pss_cons (ps_expr (pe_bm PySem.F.plainAttrs_list PySem.F.slot_list_append PySem.F.type_list_append mt_append (pv 1) (pa_cons (pe_tup (pa_cons (pe_xmk (XE.to E6) hr rfl E6.g (pa_cons (pv 0) pa_nil)) (pa_cons (pe_xfld (Xk.pe_xmkK (XE.tok E6) hr rfl E6.g (pk_cons (pv 0) pk_nil))) pa_nil))) pa_nil))) (pss_one (ps_ret (pe_op op_cat (pv 1) (pe_lst (pa_cons (pe_tup (pa_cons (pe_xmk (XE.to E7) hr rfl E7.g (pa_cons (pv 0) pa_nil)) (pa_cons (pe_xfld (Xk.pe_xmkK (XE.tok E7) hr rfl E7.g (pk_cons (pv 0) pk_nil))) pa_nil))) pa_nil))))))))), ?_⟩
    simp only [tSeq, tAsg, tLst, tCons]
    refine pair_rd E0 (by rfl) fun t0 H0 s0 p0 => ?_
    refine pair_rd E1 (by rfl) fun t1 H1 s1 p1 => ?_
    refine ⟨by show 2 ≤ sizeLine; decide, fun r hr1 => ?_⟩
    have R0 : Rw K CS H (upd H1 r (.lst [t0, t1])) r v 11 [t0, t1] := ⟨(s0.trans s1).trans (same_new hr1), (s0.trans s1).free hr1, upd_same, .cons ((p0.same s1).same (same_new hr1)) (.cons (p1.same (same_new hr1)) (.nil _))⟩
    generalize upd H1 r (.lst [t0, t1]) = Ha0 at R0 ⊢
    refine ⟨_, rfl, ?_⟩
    simp only [tLst, tCons]
    refine pair_rd E2 (by rfl) fun t2 H3 s3 p2 => ?_
    refine pair_rd E3 (by rfl) fun t3 H4 s4 p3 => ?_
    refine ⟨by show 2 ≤ sizeLine; decide, fun l hl => ?_⟩
    have s5 := same_new (o := .lst [t2, t3]) hl
    have R2 := ((R0.same s3).same s4).same s5
    refine ⟨r, l, _, _, rfl, rfl, R2.ls, upd_same, by show 4 ≤ sizeLine; decide, fun q hq => ?_⟩
    have R3 := R2.cat hq (us := [t2, t3]) (.cons ((p2.same s4).same s5) (.cons (p3.same s5) (.nil _)))
    generalize upd (upd H4 l (.lst [t2, t3])) q (.lst ([t0, t1] ++ [t2, t3])) = Ha1 at R3 ⊢
    refine ⟨_, rfl, .inl ⟨rfl, _, SqL.of R3.ls⟩, ?_⟩
    simp only [tCons]
    refine pair_rd E4 (by rfl) fun t4 Hb4 sb4 p4 => ?_
    have Rb4 := R3.same sb4
    refine ⟨q, _, _, rfl, rfl, Rb4.ls, by show 4 < sizeLine; decide, ?_⟩
    have Rc4 := Rb4.put p4
    change tSeq _ _ _ _ (upd Hb4 q (.lst (([t0, t1] ++ [t2, t3]) ++ [t4])))
    generalize upd Hb4 q (.lst (([t0, t1] ++ [t2, t3]) ++ [t4])) = Hc4 at Rc4 ⊢
    refine ⟨_, rfl, .inl ⟨rfl, _, SqL.of Rc4.ls⟩, ?_⟩
    simp only [tCons]
    refine pair_rd E5 (by rfl) fun t5 Hb5 sb5 p5 => ?_
    have Rb5 := Rc4.same sb5
    refine ⟨q, _, _, rfl, rfl, Rb5.ls, by show 5 < sizeLine; decide, ?_⟩
    have Rc5 := Rb5.put p5
    change tSeq _ _ _ _ (upd Hb5 q (.lst ((([t0, t1] ++ [t2, t3]) ++ [t4]) ++ [t5])))
    generalize upd Hb5 q (.lst ((([t0, t1] ++ [t2, t3]) ++ [t4]) ++ [t5])) = Hc5 at Rc5 ⊢
    refine ⟨_, rfl, .inl ⟨rfl, _, SqL.of Rc5.ls⟩, ?_⟩
    simp only [tCons]
    refine pair_rd E6 (by rfl) fun t6 Hb6 sb6 p6 => ?_
    have Rb6 := Rc5.same sb6
    refine ⟨q, _, _, rfl, rfl, Rb6.ls, by show 6 < sizeLine; decide, ?_⟩
    have Rc6 := Rb6.put p6
    change tRet _ _ _ (upd Hb6 q (.lst (((([t0, t1] ++ [t2, t3]) ++ [t4]) ++ [t5]) ++ [t6])))
    generalize upd Hb6 q (.lst (((([t0, t1] ++ [t2, t3]) ++ [t4]) ++ [t5]) ++ [t6])) = Hc6 at Rc6 ⊢
    refine ⟨_, rfl, ?_⟩
    simp only [tLst, tCons]
    refine pair_rd E7 (by rfl) fun t7 Hz sz pz => ?_
    refine ⟨by show 1 ≤ sizeLine; decide, fun l2 hl2 => ?_⟩
    have s13 := same_new (o := .lst [t7]) hl2
    have R10 := (Rc6.same sz).same s13
    refine ⟨q, l2, _, _, rfl, rfl, R10.ls, upd_same, by show 8 ≤ sizeLine; decide, fun z hz => ?_⟩
    have R11 := R10.cat hz (us := [t7]) (.cons (pz.same s13) (.nil _))
    exact k _ _ _ R11.sm R11.ls rfl R11.ps
end
end K04
set_option Elab.async false
set_option linter.all false
set_option maxRecDepth 100000
set_option maxHeartbeats 4000000
namespace K04
open PySem L2 Xo
/-- who is whose kin -/
structure Kin (K : PySem.W.Frag) (CS : List Addr) (T A F : Addr) : Prop where
  t : ∀ (i : Nat) (C : Addr), CS[i]? = some C → PySem.W.kitOne K (.ref C) (.ref T) = some (decide (i < 8))
  a : ∀ (i : Nat) (C : Addr), CS[i]? = some C → PySem.W.kitOne K (.ref C) (.ref A) = some (decide (8 ≤ i ∧ i < 11))
  f : ∀ (i : Nat) (C : Addr), CS[i]? = some C → PySem.W.kitOne K (.ref C) (.ref F) = some (decide (11 ≤ i))
  v : ∀ (i : Nat) (C : Addr), CS[i]? = some C → PySem.W.kitOne K (.ref C) (.type "ValueError") = some (decide (i < 8))
  l : ∀ (i : Nat) (C : Addr), CS[i]? = some C → PySem.W.kitOne K (.ref C) (.type "LookupError") = some (decide (8 ≤ i ∧ i < 11))
  r : ∀ (i : Nat) (C : Addr), CS[i]? = some C → PySem.W.kitOne K (.ref C) (.type "RuntimeError") = some (decide (11 ≤ i))
  one : ∀ (i j : Nat) (C D : Addr), CS[i]? = some C → CS[j]? = some D → PySem.W.kitOne K (.ref C) (.ref D) = some (decide (i = j))
  len : CS.length = 19
structure Nf (mg : Str → Option Value) (T A F : Addr) : Prop where
  t : mg "TableError" = some (.ref T)
  a : mg "Absent" = some (.ref A)
  f : mg "Fault" = some (.ref F)
  ve : mg "ValueError" = none
  le : mg "LookupError" = none
  re : mg "RuntimeError" = none
/-- the family of the i-th class -/
def fB (i : Nat) : List Bool := [decide (i < 8), decide (8 ≤ i ∧ i < 11), decide (11 ≤ i)]
section
variable {P : Program} {w : World} {K : PySem.W.Frag} {mg : Str → Option Value} {base : Heap}
def spFam (K : PySem.W.Frag) (CS : List Addr) : Sp := fun vs H Q _ => ∃ (a : Addr) (i : Nat), vs = [.ref a] ∧ ErrAt K CS H a i ∧ ∀ r H', Same H H' → H' r = some (.lst ((fB i ++ fB i).map V.bl)) → Q (.ref r) H'
theorem scFam : FnScope ["error", "found"] ["error"] (defScope sFam) := ⟨rfl, rfl, rfl, by decide +kernel, rfl, by decide +kernel, by decide +kernel⟩
theorem ok_fam {f T A F : Addr} {fd : FuncData} {CS : List Addr} (D : Df K mg "_law_families" "_law_families" sFam ["error"] f fd) (B : Bl mg) (N : Nf mg T A F) (KN : Kin K CS T A F) : FnOk P w K mg base CX0 1 f fd ["error"] (spFam K CS) := by
  refine D.F.ok scFam (fun vs H Q E h => ?_) (fun cdv A outer s H vs Q E hr h => ?_)
  · obtain ⟨a, i, rfl, _⟩ := h
    rfl
  · obtain ⟨a, i, rfl, ⟨C, d, fs, hi, xa, xc⟩, k⟩ := h
    refine ⟨_, pss_cons (ps_set (i := 1) scFam.nd rfl (Or.inl rfl) (pe_lst (pa_cons (pe_callB call_isX (by rfl) B.isinstance (by decide +kernel) (pa_cons (pv 0) (pa_cons (pe_glob (v := .ref T) rfl N.t rfl) pa_nil))) (pa_cons (pe_callB call_isX (by rfl) B.isinstance (by decide +kernel) (pa_cons (pv 0) (pa_cons (pe_glob (v := .ref _) rfl N.a rfl) pa_nil))) (pa_cons (pe_callB call_isX (by rfl) B.isinstance (by decide +kernel) (pa_cons (pv 0) (pa_cons (pe_glob (v := .ref F) rfl N.f rfl) pa_nil))) pa_nil)))))
      (pss_one (ps_ret (pe_op op_cat (pv 1) (pe_lst (pa_cons (pe_callB call_isX (by rfl) B.isinstance (by decide +kernel) (pa_cons (pv 0) (pa_cons (pe_bltn (v := .ty "ValueError") (u := .type "ValueError") rfl N.ve (by decide +kernel) rfl) pa_nil))) (pa_cons (pe_callB call_isX (by rfl) B.isinstance (by decide +kernel) (pa_cons (pv 0) (pa_cons (pe_bltn (v := .ty "LookupError") (u := .type "LookupError") rfl N.le (by decide +kernel) rfl) pa_nil))) (pa_cons (pe_callB call_isX (by rfl) B.isinstance (by decide +kernel) (pa_cons (pv 0) (pa_cons (pe_bltn (v := .ty "RuntimeError") (u := .type "RuntimeError") rfl N.re (by decide +kernel) rfl) pa_nil))) pa_nil))))))), ?_⟩
    refine ⟨_, rfl, a, C, d, fs, _, _, _, rfl, xa, xc, .own _, KN.t i C hi, _, rfl, a, C, d, fs, _, _, _, rfl, xa, xc, .own _, KN.a i C hi, _, rfl, a, C, d, fs, _, _, _, rfl, xa, xc, .own _, KN.f i C hi, by show 3 ≤ sizeLine; decide, fun l hl => ?_⟩
    have s1 := same_new (o := .lst [V.bl (decide (i < 8)), V.bl (decide (8 ≤ i ∧ i < 11)), V.bl (decide (11 ≤ i))]) hl
    have xa1 := xat_same xa s1
    have e1 : upd H l (.lst [V.bl (decide (i < 8)), V.bl (decide (8 ≤ i ∧ i < 11)), V.bl (decide (11 ≤ i))]) l = some (.lst [V.bl (decide (i < 8)), V.bl (decide (8 ≤ i ∧ i < 11)), V.bl (decide (11 ≤ i))]) := upd_same
    generalize upd H l (.lst [V.bl (decide (i < 8)), V.bl (decide (8 ≤ i ∧ i < 11)), V.bl (decide (11 ≤ i))]) = H1 at s1 xa1 e1 ⊢
    refine ⟨_, rfl, _, rfl, a, C, d, fs, _, _, _, rfl, xa1, xc, .ty _, KN.v i C hi, _, rfl, a, C, d, fs, _, _, _, rfl, xa1, xc, .ty _, KN.l i C hi, _, rfl, a, C, d, fs, _, _, _, rfl, xa1, xc, .ty _, KN.r i C hi, by show 3 ≤ sizeLine; decide, fun l2 hl2 => ?_⟩
    have s2 := same_new (o := .lst [V.bl (decide (i < 8)), V.bl (decide (8 ≤ i ∧ i < 11)), V.bl (decide (11 ≤ i))]) hl2
    refine ⟨l, l2, [V.bl (decide (i < 8)), V.bl (decide (8 ≤ i ∧ i < 11)), V.bl (decide (11 ≤ i))], [V.bl (decide (i < 8)), V.bl (decide (8 ≤ i ∧ i < 11)), V.bl (decide (11 ≤ i))], rfl, rfl, s2 _ _ e1, upd_same, by show 6 ≤ sizeLine; decide, fun q hq => ?_⟩
    exact k q _ (s1.trans (s2.trans (same_new hq))) (by rw [upd_same]; rfl)
def spCls (K : PySem.W.Frag) (CS : List Addr) : Sp := fun vs H Q _ => ∃ (a : Addr) (i : Nat), vs = [.ref a] ∧ ErrAt K CS H a i ∧ ∀ H', Same H H' → Q (.int 1) H'
theorem scCls : FnScope ["error", "found"] ["error"] (defScope sCls) := ⟨rfl, rfl, rfl, by decide +kernel, rfl, by decide +kernel, by decide +kernel⟩
def eqB (i n : Nat) : List V := (List.range n).map fun j => .bl (decide (i = j))
theorem eqB_count {i : Nat} (h : i < 19) : (eqB i 19).countP (fun z => eqV z (.bl true)) = 1 := by
  have : ∀ i, i < 19 → (eqB i 19).countP (fun z => eqV z (.bl true)) = 1 := by decide +kernel
  exact this i h
theorem ok_cls {f T A F c0 c1 c2 c3 c4 c5 c6 c7 c8 c9 c10 c11 c12 c13 c14 c15 c16 c17 c18 : Addr} {fd : FuncData} {CS : List Addr} (D : Df K mg "_law_classes" "_law_classes" sCls ["error"] f fd) (B : Bl mg) (KN : Kin K CS T A F)
    (E0 : XE P w K mg base CS "BadKey" c0 "reason" 0) (E1 : XE P w K mg base CS "BadCode" c1 "reason" 1) (E2 : XE P w K mg base CS "BadSize" c2 "reason" 2) (E3 : XE P w K mg base CS "BadStep" c3 "index" 3) (E4 : XE P w K mg base CS "BadPicture" c4 "index" 4) (E5 : XE P w K mg base CS "BadPairs" c5 "index" 5) (E6 : XE P w K mg base CS "BadView" c6 "reason" 6) (E7 : XE P w K mg base CS "BadLayout" c7 "fault" 7) (E8 : XE P w K mg base CS "Missing" c8 "key" 8) (E9 : XE P w K mg base CS "Empty" c9 "reason" 9) (E10 : XE P w K mg base CS "NoEntry" c10 "index" 10) (E11 : XE P w K mg base CS "CodeFault" c11 "label" 11) (E12 : XE P w K mg base CS "MatchFault" c12 "label" 12) (E13 : XE P w K mg base CS "Unsettled" c13 "limit" 13) (E14 : XE P w K mg base CS "Locked" c14 "reason" 14) (E15 : XE P w K mg base CS "NotHeld" c15 "reason" 15) (E16 : XE P w K mg base CS "ChangedSize" c16 "expected" 16) (E17 : XE P w K mg base CS "ChangedKeys" c17 "reason" 17) (E18 : XE P w K mg base CS "TooLarge" c18 "limit" 18) : FnOk P w K mg base CX0 1 f fd ["error"] (spCls K CS) := by
  refine D.F.ok scCls (fun vs H Q E h => ?_) (fun cdv A outer s H vs Q E hr h => ?_)
  · obtain ⟨a, i, rfl, _⟩ := h
    rfl
  · obtain ⟨a, i, rfl, ⟨C, d, fs, hi, xa, xc⟩, k⟩ := h
    have hi19 : i < 19 := by
      have := (List.getElem?_eq_some_iff.mp hi).1
      rwa [KN.len] at this
    refine ⟨_, pss_cons (ps_set (i := 1) scCls.nd rfl (Or.inl rfl) (pe_lst (pa_cons (pe_callB call_isX (by rfl) B.isinstance (by decide +kernel) (pa_cons (pv 0) (pa_cons (pe_glob (v := .ref c0) rfl E0.g rfl) pa_nil))) (pa_cons (pe_callB call_isX (by rfl) B.isinstance (by decide +kernel) (pa_cons (pv 0) (pa_cons (pe_glob (v := .ref c1) rfl E1.g rfl) pa_nil))) (pa_cons (pe_callB call_isX (by rfl) B.isinstance (by decide +kernel) (pa_cons (pv 0) (pa_cons (pe_glob (v := .ref c2) rfl E2.g rfl) pa_nil))) pa_nil)))))
      (pss_cons (ps_set (i := 1) scCls.nd rfl (Or.inl rfl) (pe_op op_cat (pv 1) (pe_lst (pa_cons (pe_callB call_isX (by rfl) B.isinstance (by decide +kernel) (pa_cons (pv 0) (pa_cons (pe_glob (v := .ref c3) rfl E3.g rfl) pa_nil))) (pa_cons (pe_callB call_isX (by rfl) B.isinstance (by decide +kernel) (pa_cons (pv 0) (pa_cons (pe_glob (v := .ref c4) rfl E4.g rfl) pa_nil))) (pa_cons (pe_callB call_isX (by rfl) B.isinstance (by decide +kernel) (pa_cons (pv 0) (pa_cons (pe_glob (v := .ref c5) rfl E5.g rfl) pa_nil))) pa_nil))))))
      (pss_cons (ps_set (i := 1) scCls.nd rfl (Or.inl rfl) (pe_op op_cat (pv 1) (pe_lst (pa_cons (pe_callB call_isX (by rfl) B.isinstance (by decide +kernel) (pa_cons (pv 0) (pa_cons (pe_glob (v := .ref c6) rfl E6.g rfl) pa_nil))) (pa_cons (pe_callB call_isX (by rfl) B.isinstance (by decide +kernel) (pa_cons (pv 0) (pa_cons (pe_glob (v := .ref c7) rfl E7.g rfl) pa_nil))) (pa_cons (pe_callB call_isX (by rfl) B.isinstance (by decide +kernel) (pa_cons (pv 0) (pa_cons (pe_glob (v := .ref c8) rfl E8.g rfl) pa_nil))) pa_nil))))))
      (pss_cons (ps_set (i := 1) scCls.nd rfl (Or.inl rfl) (pe_op op_cat (pv 1) (pe_lst (pa_cons (pe_callB call_isX (by rfl) B.isinstance (by decide +kernel) (pa_cons (pv 0) (pa_cons (pe_glob (v := .ref c9) rfl E9.g rfl) pa_nil))) (pa_cons (pe_callB call_isX (by rfl) B.isinstance (by decide +kernel) (pa_cons (pv 0) (pa_cons (pe_glob (v := .ref c10) rfl E10.g rfl) pa_nil))) (pa_cons (pe_callB call_isX (by rfl) B.isinstance (by decide +kernel) (pa_cons (pv 0) (pa_cons (pe_glob (v := .ref c11) rfl E11.g rfl) pa_nil))) pa_nil))))))
      (pss_cons (ps_set (i := 1) scCls.nd rfl (Or.inl rfl) (pe_op op_cat (pv 1) (pe_lst (pa_cons (pe_callB call_isX (by rfl) B.isinstance (by decide +kernel) (pa_cons (pv 0) (pa_cons (pe_glob (v := .ref c12) rfl E12.g rfl) pa_nil))) (pa_cons (pe_callB call_isX (by rfl) B.isinstance (by decide +kernel) (pa_cons (pv 0) (pa_cons (pe_glob (v := .ref c13) rfl E13.g rfl) pa_nil))) (pa_cons (pe_callB call_isX (by rfl) B.isinstance (by decide +kernel) (pa_cons (pv 0) (pa_cons (pe_glob (v := .ref c14) rfl E14.g rfl) pa_nil))) pa_nil))))))
      (pss_cons (ps_set (i := 1) scCls.nd rfl (Or.inl rfl) (pe_op op_cat (pv 1) (pe_lst (pa_cons (pe_callB call_isX (by rfl) B.isinstance (by decide +kernel) (pa_cons (pv 0) (pa_cons (pe_glob (v := .ref c15) rfl E15.g rfl) pa_nil))) (pa_cons (pe_callB call_isX (by rfl) B.isinstance (by decide +kernel) (pa_cons (pv 0) (pa_cons (pe_glob (v := .ref c16) rfl E16.g rfl) pa_nil))) (pa_cons (pe_callB call_isX (by rfl) B.isinstance (by decide +kernel) (pa_cons (pv 0) (pa_cons (pe_glob (v := .ref c17) rfl E17.g rfl) pa_nil))) pa_nil))))))
      (pss_one (ps_ret (pe_bm PySem.F.plainAttrs_list PySem.F.slot_list_count PySem.F.type_list_count Sd.mt_countF (pe_op op_cat (pv 1) (pe_lst (pa_cons (pe_callB call_isX (by rfl) B.isinstance (by decide +kernel) (pa_cons (pv 0) (pa_cons (pe_glob (v := .ref c18) rfl E18.g rfl) pa_nil))) pa_nil))) (pa_cons pe_bl pa_nil))))))))), ?_⟩
    refine ⟨_, rfl, a, C, d, fs, _, _, _, rfl, xa, xc, .own _, KN.one i 0 C c0 hi E0.at_, _, rfl, a, C, d, fs, _, _, _, rfl, xa, xc, .own _, KN.one i 1 C c1 hi E1.at_, _, rfl, a, C, d, fs, _, _, _, rfl, xa, xc, .own _, KN.one i 2 C c2 hi E2.at_, by show 3 ≤ sizeLine; decide, fun l0 hl0 => ?_⟩
    have s0 := same_new (o := .lst (eqB i 3)) hl0
    have x0 := xat_same xa s0
    have e0 : upd H l0 (.lst (eqB i 3)) l0 = some (.lst (eqB i 3)) := upd_same
    change tSeq _ _ _ _ (upd H l0 (.lst (eqB i 3)))
    generalize upd H l0 (.lst (eqB i 3)) = H0 at s0 x0 e0 ⊢
    refine ⟨_, rfl, _, rfl, a, C, d, fs, _, _, _, rfl, x0, xc, .own _, KN.one i 3 C c3 hi E3.at_, _, rfl, a, C, d, fs, _, _, _, rfl, x0, xc, .own _, KN.one i 4 C c4 hi E4.at_, _, rfl, a, C, d, fs, _, _, _, rfl, x0, xc, .own _, KN.one i 5 C c5 hi E5.at_, by show 3 ≤ sizeLine; decide, fun k1 hk1 => ?_⟩
    have t1 := s0.trans (same_new (o := .lst [V.bl (decide (i = 3)), V.bl (decide (i = 4)), V.bl (decide (i = 5))]) hk1)
    refine ⟨l0, k1, eqB i 3, _, rfl, rfl, same_new hk1 _ _ e0, upd_same, by show 6 ≤ sizeLine; decide, fun l1 hl1 => ?_⟩
    have s1 := t1.trans (same_new (o := .lst (eqB i 6)) hl1)
    have x1 := xat_same xa s1
    have e1 : upd (upd H0 k1 (.lst [V.bl (decide (i = 3)), V.bl (decide (i = 4)), V.bl (decide (i = 5))])) l1 (.lst (eqB i 6)) l1 = some (.lst (eqB i 6)) := upd_same
    change tSeq _ _ _ _ (upd (upd H0 k1 (.lst [V.bl (decide (i = 3)), V.bl (decide (i = 4)), V.bl (decide (i = 5))])) l1 (.lst (eqB i 6)))
    generalize upd (upd H0 k1 (.lst [V.bl (decide (i = 3)), V.bl (decide (i = 4)), V.bl (decide (i = 5))])) l1 (.lst (eqB i 6)) = H1 at s1 x1 e1 ⊢
    refine ⟨_, rfl, _, rfl, a, C, d, fs, _, _, _, rfl, x1, xc, .own _, KN.one i 6 C c6 hi E6.at_, _, rfl, a, C, d, fs, _, _, _, rfl, x1, xc, .own _, KN.one i 7 C c7 hi E7.at_, _, rfl, a, C, d, fs, _, _, _, rfl, x1, xc, .own _, KN.one i 8 C c8 hi E8.at_, by show 3 ≤ sizeLine; decide, fun k2 hk2 => ?_⟩
    have t2 := s1.trans (same_new (o := .lst [V.bl (decide (i = 6)), V.bl (decide (i = 7)), V.bl (decide (i = 8))]) hk2)
    refine ⟨l1, k2, eqB i 6, _, rfl, rfl, same_new hk2 _ _ e1, upd_same, by show 9 ≤ sizeLine; decide, fun l2 hl2 => ?_⟩
    have s2 := t2.trans (same_new (o := .lst (eqB i 9)) hl2)
    have x2 := xat_same xa s2
    have e2 : upd (upd H1 k2 (.lst [V.bl (decide (i = 6)), V.bl (decide (i = 7)), V.bl (decide (i = 8))])) l2 (.lst (eqB i 9)) l2 = some (.lst (eqB i 9)) := upd_same
    change tSeq _ _ _ _ (upd (upd H1 k2 (.lst [V.bl (decide (i = 6)), V.bl (decide (i = 7)), V.bl (decide (i = 8))])) l2 (.lst (eqB i 9)))
    generalize upd (upd H1 k2 (.lst [V.bl (decide (i = 6)), V.bl (decide (i = 7)), V.bl (decide (i = 8))])) l2 (.lst (eqB i 9)) = H2 at s2 x2 e2 ⊢
    refine ⟨_, rfl, _, rfl, a, C, d, fs, _, _, _, rfl, x2, xc, .own _, KN.one i 9 C c9 hi E9.at_, _, rfl, a, C, d, fs, _, _, _, rfl, x2, xc, .own _, KN.one i 10 C c10 hi E10.at_, _, rfl, a, C, d, fs, _, _, _, rfl, x2, xc, .own _, KN.one i 11 C c11 hi E11.at_, by show 3 ≤ sizeLine; decide, fun k3 hk3 => ?_⟩
    have t3 := s2.trans (same_new (o := .lst [V.bl (decide (i = 9)), V.bl (decide (i = 10)), V.bl (decide (i = 11))]) hk3)
    refine ⟨l2, k3, eqB i 9, _, rfl, rfl, same_new hk3 _ _ e2, upd_same, by show 12 ≤ sizeLine; decide, fun l3 hl3 => ?_⟩
    have s3 := t3.trans (same_new (o := .lst (eqB i 12)) hl3)
    have x3 := xat_same xa s3
    have e3 : upd (upd H2 k3 (.lst [V.bl (decide (i = 9)), V.bl (decide (i = 10)), V.bl (decide (i = 11))])) l3 (.lst (eqB i 12)) l3 = some (.lst (eqB i 12)) := upd_same
    change tSeq _ _ _ _ (upd (upd H2 k3 (.lst [V.bl (decide (i = 9)), V.bl (decide (i = 10)), V.bl (decide (i = 11))])) l3 (.lst (eqB i 12)))
    generalize upd (upd H2 k3 (.lst [V.bl (decide (i = 9)), V.bl (decide (i = 10)), V.bl (decide (i = 11))])) l3 (.lst (eqB i 12)) = H3 at s3 x3 e3 ⊢
    refine ⟨_, rfl, _, rfl, a, C, d, fs, _, _, _, rfl, x3, xc, .own _, KN.one i 12 C c12 hi E12.at_, _, rfl, a, C, d, fs, _, _, _, rfl, x3, xc, .own _, KN.one i 13 C c13 hi E13.at_, _, rfl, a, C, d, fs, _, _, _, rfl, x3, xc, .own _, KN.one i 14 C c14 hi E14.at_, by show 3 ≤ sizeLine; decide, fun k4 hk4 => ?_⟩
    have t4 := s3.trans (same_new (o := .lst [V.bl (decide (i = 12)), V.bl (decide (i = 13)), V.bl (decide (i = 14))]) hk4)
    refine ⟨l3, k4, eqB i 12, _, rfl, rfl, same_new hk4 _ _ e3, upd_same, by show 15 ≤ sizeLine; decide, fun l4 hl4 => ?_⟩
    have s4 := t4.trans (same_new (o := .lst (eqB i 15)) hl4)
    have x4 := xat_same xa s4
    have e4 : upd (upd H3 k4 (.lst [V.bl (decide (i = 12)), V.bl (decide (i = 13)), V.bl (decide (i = 14))])) l4 (.lst (eqB i 15)) l4 = some (.lst (eqB i 15)) := upd_same
    change tSeq _ _ _ _ (upd (upd H3 k4 (.lst [V.bl (decide (i = 12)), V.bl (decide (i = 13)), V.bl (decide (i = 14))])) l4 (.lst (eqB i 15)))
    generalize upd (upd H3 k4 (.lst [V.bl (decide (i = 12)), V.bl (decide (i = 13)), V.bl (decide (i = 14))])) l4 (.lst (eqB i 15)) = H4 at s4 x4 e4 ⊢
    refine ⟨_, rfl, _, rfl, a, C, d, fs, _, _, _, rfl, x4, xc, .own _, KN.one i 15 C c15 hi E15.at_, _, rfl, a, C, d, fs, _, _, _, rfl, x4, xc, .own _, KN.one i 16 C c16 hi E16.at_, _, rfl, a, C, d, fs, _, _, _, rfl, x4, xc, .own _, KN.one i 17 C c17 hi E17.at_, by show 3 ≤ sizeLine; decide, fun k5 hk5 => ?_⟩
    have t5 := s4.trans (same_new (o := .lst [V.bl (decide (i = 15)), V.bl (decide (i = 16)), V.bl (decide (i = 17))]) hk5)
    refine ⟨l4, k5, eqB i 15, _, rfl, rfl, same_new hk5 _ _ e4, upd_same, by show 18 ≤ sizeLine; decide, fun l5 hl5 => ?_⟩
    have s5 := t5.trans (same_new (o := .lst (eqB i 18)) hl5)
    have x5 := xat_same xa s5
    have e5 : upd (upd H4 k5 (.lst [V.bl (decide (i = 15)), V.bl (decide (i = 16)), V.bl (decide (i = 17))])) l5 (.lst (eqB i 18)) l5 = some (.lst (eqB i 18)) := upd_same
    refine ⟨_, rfl, _, rfl, a, C, d, fs, _, _, _, rfl, x5, xc, .own _, KN.one i 18 C c18 hi E18.at_, by show 1 ≤ sizeLine; decide, fun kz hkz => ?_⟩
    have tz := s5.trans (same_new (o := .lst [V.bl (decide (i = 18))]) hkz)
    refine ⟨l5, kz, eqB i 18, _, rfl, rfl, same_new hkz _ _ e5, upd_same, by show 19 ≤ sizeLine; decide, fun lz hlz => ?_⟩
    have sz := tz.trans (same_new (o := .lst (eqB i 19)) hlz)
    refine ⟨.inl ⟨rfl, _, SqL.of upd_same⟩, lz, eqB i 19, .bl true, rfl, rfl, SqL.of upd_same, rfl, ?_, ?_⟩
    · rw [List.all_eq_true]
      intro x hx
      obtain ⟨j, _, rfl⟩ := List.mem_map.mp hx
      rfl
    · rw [eqB_count hi19]
      exact k _ sz
end
end K04
set_option Elab.async false
set_option linter.all false
set_option maxRecDepth 100000
set_option maxHeartbeats 1000000
/-! Gr: repr of any data -/
namespace Gd
open PySem PySem.Spec PyProof.Rows L2 LamX
def rReprD (K : PySem.W.Frag) : List V → Hp → VK → Prop := fun xs H Q => ∃ (v : V) (d : PyData), xs = [v] ∧ Dp K H v d ∧ d.showable = true ∧ d.hasDict = false ∧ d.depth ≤ 60 ∧ d.shown.length ≤ sizeLine ∧ Q (.str d.shown) H
theorem call_reprD {X : Cx} (hgd : X.A.guards = some []) (hu : X.A.units + 64 < cLine) : CallR X (.builtin "repr") (rReprD X.K) := by
  intro pins s σ H xs us Q I r h
  obtain ⟨v, d, rfl, hd, hs, hk, hdp, hz, q⟩ := h
  obtain ⟨u, rfl, ru⟩ := r.one
  obtain ⟨as, rd⟩ := Dp.reads I d _ _ hd ru
  have byRef : ∀ a : Addr, v = .ref a → wpAny (model X.prog X.w) X.A (call (.builtin "repr") [u]) (EP X pins σ Q) X.xe s := fun a e => by
    subst e
    obtain rfl : u = Value.ref a := ru
    exact repr_of_reads' rd hs (fun z => by rw [hk] at z; cases z) hgd (by omega) (fun b o e => e) (fun h' u tk k => ⟨.str d.shown, H, I.kept (t' := tk) k, ⟨u, rfl⟩, q⟩) hz
  cases hd with
  | non =>
    obtain rfl : u = Value.none := ru
    simp only [PyData.shown] at q
    exact PySem.P.repr_of_none ⟨.str _, H, I.tok _, ⟨_, rfl⟩, q⟩
  | bl b =>
    obtain rfl : u = Value.bool b := ru
    simp only [PyData.shown] at q
    exact PySem.P.repr_of_bool ⟨.str _, H, I.tok _, ⟨_, rfl⟩, q⟩
  | int i =>
    obtain ⟨t, rfl⟩ := ru
    simp only [PyData.shown] at q
    simp only [PyData.showable] at hs
    exact PySem.P.repr_of_int (of_decide_eq_true hs) ⟨.str _, H, I.tok _, ⟨_, rfl⟩, q⟩
  | str x =>
    obtain ⟨t, rfl⟩ := ru
    simp only [PyData.shown] at q hz
    exact PySem.P.repr_of_str ⟨.str _, H, I.tok _, ⟨_, rfl⟩, q⟩ hz
  | lst h1 h2 => exact byRef _ rfl
  | tup h1 h2 => exact byRef _ rfl
end Gd
set_option Elab.async false
set_option linter.all false
set_option maxRecDepth 100000
set_option maxHeartbeats 4000000
namespace K04
open PySem L2 Xo
abbrev sLaw : Stmt := top 32
theorem Val.dp {K : PySem.W.Frag} {H : Hp} {v : V} (h : Val H v) : ∃ d, Dp K H v d ∧ d.showable = true ∧ d.hasDict = false ∧ d.depth ≤ 60 ∧ d.shown.length ≤ sizeLine := by
  cases h with
  | int n h => exact ⟨_, .int n, (Rp.Sh.int (k := 12) (by decide) (by decide) h).shw (by decide) (by decide)⟩
  | non => exact ⟨_, .non, Rp.Sh.none.shw (by decide) (by decide)⟩
  | a => exact ⟨_, .str _, by decide +kernel⟩
  | held => exact ⟨_, .str _, by decide +kernel⟩
  | tup h => exact ⟨_, .tup (SqT.of h) (.cons (.int 1) (.cons (.int 2) .nil)), by decide +kernel⟩
theorem pick8 {H : Hp} {t : Addr} (ht : H t = some (.tup [.int 1, .int 2])) (n : Nat) (h : n < 8) : ∃ v, ([V.int 0, .int (-1), .non, .str "a", .ref t, .int 600, .int 16, .str "the table is held"] : List V)[n]? = some v ∧ Val H v := by
  match n, h with
  | 0, _ => exact ⟨_, rfl, .int _ (by decide)⟩
  | 1, _ => exact ⟨_, rfl, .int _ (by decide)⟩
  | 2, _ => exact ⟨_, rfl, .non⟩
  | 3, _ => exact ⟨_, rfl, .a⟩
  | 4, _ => exact ⟨_, rfl, .tup ht⟩
  | 5, _ => exact ⟨_, rfl, .int _ (by decide)⟩
  | 6, _ => exact ⟨_, rfl, .int _ (by decide)⟩
  | 7, _ => exact ⟨_, rfl, .held⟩
theorem cut_ints {ns : List Int} {lo hi : Option Int} {x : V} (h : x ∈ cutV (ns.map V.int) lo hi) : ∃ z, x = V.int z := by
  unfold cutV at h
  obtain ⟨z, _, rfl⟩ := List.mem_map.mp (List.mem_of_mem_drop (List.mem_of_mem_take h))
  exact ⟨z, rfl⟩
theorem dp_bools {K : PySem.W.Frag} {H : Hp} : ∀ bs : List Bool, DpAll K H (bs.map V.bl) (bs.map PyData.bool)
  | [] => .nil
  | b :: bs => .cons (.bl b) (dp_bools bs)
/-- the place of a row, as three answers -/
def dB (j : Nat) : List Bool := [decide (j = 0), decide (j = 1), decide (j = 2)]
theorem shaped6 (a b c : Bool) : SeqAt.shaped (.list ([a, b, c, a, b, c].map PyData.bool)) = true := by
  cases a <;> cases b <;> cases c <;> decide +kernel
theorem eqv6 (a b c : Bool) : (!PyData.eqv (.list ([a, b, c, a, b, c].map PyData.bool)) (.list ([a, b, c, a, b, c].map PyData.bool))) = false := by
  cases a <;> cases b <;> cases c <;> decide +kernel
/-- a row of the j-th family -/
def RowAt (K : PySem.W.Frag) (CS : List Addr) (H : Hp) (v : V) (j : Nat) (x : V) : Prop := ∃ (r : Addr) (ts : List V) (lo : Nat), x = .ref r ∧ H r = some (.lst ts) ∧ Pairs K CS H v lo ts ∧ ∀ i, i < ts.length → fB (lo + i) = dB j
theorem RowAt.same {K : PySem.W.Frag} {CS : List Addr} {H H' : Hp} {v x : V} {j : Nat} (h : RowAt K CS H v j x) (s : Same H H') : RowAt K CS H' v j x := by
  obtain ⟨r, ts, lo, h1, h2, h3, h4⟩ := h
  exact ⟨r, ts, lo, h1, s _ _ h2, h3.same s, h4⟩
theorem fam0 : ∀ i, i < 8 → fB (0 + i) = dB 0 := by decide
theorem fam1 : ∀ i, i < 3 → fB (8 + i) = dB 1 := by decide
theorem fam2 : ∀ i, i < 8 → fB (11 + i) = dB 2 := by decide
section
variable {P : Program} {w : World} {K : PySem.W.Frag} {mg : Str → Option Value} {base : Heap}
def spLaw (K : PySem.W.Frag) : Sp := fun vs H Q _ => ∃ (a : Addr) (ns : List Int), vs = [.ref a] ∧ SqL K H a (ns.map V.int) ∧ ns.length ≤ 63 ∧ ∀ H', Q (.bl true) H'
abbrev NL : List Str := ["script", "k", "cell", "state", "value", "rows", "place", "row", "due", "error", "field"]
theorem scLaw : FnScope NL ["script"] (defScope sLaw) := ⟨rfl, rfl, rfl, by decide +kernel, rfl, by decide +kernel, by decide +kernel⟩
theorem ok_law {f fr fd_ fi fa ff fm fc T A F : Addr} {fd fdr fdd fdi fda fdf fdm fdc : FuncData} {CS : List Addr} (D : Df K mg "law" "law" sLaw ["script"] f fd) (B : Bl mg) (hsum : mg "sum" = none) (KN : Kin K CS T A F)
    (Dr : Df K mg "_law_draw" "_law_draw" sDraw ["cell", "k"] fr fdr) (Gr : FnOk P w K mg base CX0 1 fr fdr ["cell", "k"] spDraw) (Dd : Df K mg "_law_digit" "_law_digit" sDigit ["state", "size"] fd_ fdd) (Gdg : FnOk P w K mg base CX0 2 fd_ fdd ["state", "size"] spDigit)
    (Di : Df K mg "_law_input_errors" "_law_input_errors" sInp ["value"] fi fdi) (Gi : FnOk P w K mg base CX0 3 fi fdi ["value"] (spRow K CS 0 8)) (Da : Df K mg "_law_absences" "_law_absences" sAbs ["value"] fa fda) (Ga : FnOk P w K mg base CX0 3 fa fda ["value"] (spRow K CS 8 3))
    (Df1 : Df K mg "_law_faults" "_law_faults" sFau ["value"] ff fdf) (Gf : FnOk P w K mg base CX0 3 ff fdf ["value"] (spRow K CS 11 8)) (Dm : Df K mg "_law_families" "_law_families" sFam ["error"] fm fdm) (Gm : FnOk P w K mg base CX0 1 fm fdm ["error"] (spFam K CS))
    (Dc : Df K mg "_law_classes" "_law_classes" sCls ["error"] fc fdc) (Gc : FnOk P w K mg base CX0 1 fc fdc ["error"] (spCls K CS)) : Gd.FnG P w K mg base 4 f fd ["script"] (spLaw K) := by
  refine Gd.okG D.F scLaw (fun vs H Q E h => ?_) (fun cdv A outer s H vs Q E hr hgd h => ?_)
  · obtain ⟨a, ns, rfl, _⟩ := h
    rfl
  · obtain ⟨a, ns, rfl, hS, hlen, k⟩ := h
    have hu64 := hr.units
    refine ⟨_, pss_cons (ps_for PassesOwn.never rfl (pi_enum (by rfl) B.enumerate (pa_cons (pe_op op_cat (pe_slice sl_list (pv 0) po_none (po_some pe_int)) (pe_lst (pa_cons (pe_callB (cr_sum rfl) (by rfl) hsum (by decide +kernel) (pa_cons (pv 0) pa_nil)) pa_nil))) pa_nil)) (pg_tup rfl (pgs_cons (pg_name (i := 1) scLaw.nd rfl (Or.inl rfl)) (pgs_cons (pg_name (i := 2) scLaw.nd rfl (Or.inl rfl)) pgs_nil)))
        (pss_cons (ps_set (i := 3) scLaw.nd rfl (Or.inl rfl) (pe_call Gr (hr.mono (by decide)) rfl Dr.g Dr.F.kp Dr.b .nil pass0 (pa_cons (pv 2) (pa_cons (pv 1) pa_nil))))
        (pss_cons (ps_set (i := 4) scLaw.nd rfl (Or.inl rfl) (pe_ix ix_list (pe_lst (pa_cons pe_int (pa_cons (pe_un un_neg pe_int) (pa_cons pe_non (pa_cons pe_str (pa_cons (pe_tup (pa_cons pe_int (pa_cons pe_int pa_nil))) (pa_cons pe_int (pa_cons pe_int (pa_cons pe_str pa_nil))))))))) (pe_call Gdg (hr.mono (by decide)) rfl Dd.g Dd.F.kp Dd.b .nil pass0 (pa_cons (pv 3) (pa_cons pe_int pa_nil))) (fun _ _ => rfl)))
        (pss_cons (ps_set (i := 5) scLaw.nd rfl (Or.inl rfl) (pe_lst (pa_cons (pe_call Gi hr rfl Di.g Di.F.kp Di.b .nil pass0 (pa_cons (pv 4) pa_nil)) (pa_cons (pe_call Ga hr rfl Da.g Da.F.kp Da.b .nil pass0 (pa_cons (pv 4) pa_nil)) (pa_cons (pe_call Gf hr rfl Df1.g Df1.F.kp Df1.b .nil pass0 (pa_cons (pv 4) pa_nil)) pa_nil)))))
        (pss_one (ps_for PassesOwn.never rfl (pi_enum (by rfl) B.enumerate (pa_cons (pv 5) pa_nil)) (pg_tup rfl (pgs_cons (pg_name (i := 6) scLaw.nd rfl (Or.inl rfl)) (pgs_cons (pg_name (i := 7) scLaw.nd rfl (Or.inl rfl)) pgs_nil)))
          (pss_cons (ps_set (i := 8) scLaw.nd rfl (Or.inl rfl) (pe_op op_rep (pe_lst (pa_cons (pe_cmpR op_eq (pv 6) pe_int (nomark _)) (pa_cons (pe_cmpR op_eq (pv 6) pe_int (nomark _)) (pa_cons (pe_cmpR op_eq (pv 6) pe_int (nomark _)) pa_nil)))) pe_int))
          (pss_one (ps_for PassesOwn.never rfl (pi_list (pv 7)) (pg_tup rfl (pgs_cons (pg_name (i := 9) scLaw.nd rfl (Or.inl rfl)) (pgs_cons (pg_name (i := 10) scLaw.nd rfl (Or.inl rfl)) pgs_nil)))
            (pss_one (ps_if (PW.pt (pw_or (pt_cmpR (op_neD hu64) (pe_call Gm (hr.mono (by decide)) rfl Dm.g Dm.F.kp Dm.b .nil pass0 (pa_cons (pv 9) pa_nil)) (pv 8) (nomark _)) (pw_or (pt_cmpR op_ne (pe_call Gc (hr.mono (by decide)) rfl Dc.g Dc.F.kp Dc.b .nil pass0 (pa_cons (pv 9) pa_nil)) pe_int (nomark _)) (pw_or1 (pt_cmpR op_ne (pe_callB (Gd.call_reprD hgd hu64) (by rfl) B.repr (by decide +kernel) (pa_cons (pv 10) pa_nil)) (pe_callB (Gd.call_reprD hgd hu64) (by rfl) B.repr (by decide +kernel) (pa_cons (pv 4) pa_nil)) (nomark _)))))) (pss_one (ps_ret pe_bl)) pss_nil)))))))))))
      (pss_one (ps_ret pe_bl)), ?_⟩
    -- the cells
    refine ⟨_, rfl, _, rfl, a, _, rfl, hS, fun c0 hc0 => ?_⟩
    have y0 := same_new (o := .lst (cutV (ns.map V.int) none (some 4))) hc0
    have cl := cutV_length (ns.map V.int) none (some 4)
    rw [List.length_map] at cl
    refine ⟨_, rfl, a, ns, rfl, y0.seq hS, by show 1 ≤ sizeLine; decide, fun e0 he0 => ?_⟩
    have y1 := same_new (o := .lst [.int ns.sum]) he0
    refine ⟨c0, e0, _, _, rfl, rfl, y1 _ _ upd_same, upd_same, ?_, fun q hq => ?_⟩
    · exact Nat.le_trans (show (cutV (ns.map V.int) none (some 4)).length + 1 ≤ 64 by omega) (by decide)
    have xi : ∀ x ∈ cutV (ns.map V.int) none (some 4) ++ [V.int ns.sum], ∃ z, x = V.int z := fun x hx => by
      rcases List.mem_append.mp hx with hx | hx
      · exact cut_ints hx
      · exact ⟨_, List.mem_singleton.mp hx⟩
    have xl : (cutV (ns.map V.int) none (some 4) ++ [V.int ns.sum]).length ≤ 64 := by
      rw [List.length_append]
      show _ + 1 ≤ _
      omega
    have eq : upd (upd (upd H c0 (.lst (cutV (ns.map V.int) none (some 4)))) e0 (.lst [.int ns.sum])) q (.lst (cutV (ns.map V.int) none (some 4) ++ [V.int ns.sum])) q = some (.lst (cutV (ns.map V.int) none (some 4) ++ [V.int ns.sum])) := upd_same
    generalize upd (upd (upd H c0 (.lst (cutV (ns.map V.int) none (some 4)))) e0 (.lst [.int ns.sum])) q (.lst (cutV (ns.map V.int) none (some 4) ++ [V.int ns.sum])) = Hq at eq ⊢
    generalize cutV (ns.map V.int) none (some 4) ++ [V.int ns.sum] = xs at xi xl eq
    refine ⟨q, xs, rfl, SqL.of eq, for_enumL (K := K) (a := q) (xs := xs) (fun i σ H' => (∃ v1 v2 v3 v4 v5 v6 v7 v8 v9 v10, σ = [some (.ref a), v1, v2, v3, v4, v5, v6, v7, v8, v9, v10]) ∧ Same Hq H') ⟨⟨_, _, _, _, _, _, _, _, _, _, rfl⟩, fun _ _ e => e⟩ (fun i σ H' _ h => SqL.of (h.2 _ _ eq)) ?_ ?_⟩
    · rintro i x T σ H' hx ⟨⟨v1, v2, v3, v4, v5, v6, v7, v8, v9, v10, rfl⟩, sm⟩ hT
      obtain ⟨c, rfl⟩ := xi x (List.mem_of_getElem? hx)
      have hi : i < 64 := Nat.lt_of_lt_of_le (List.getElem?_eq_some_iff.mp hx).1 xl
      refine ⟨T, _, rfl, SqT.of upd_same, rfl, _, _, rfl, _, _, rfl, rfl, ?_⟩
      have sm1 := sm.trans (same_new (o := .tup [.int (i : Nat), .int c]) hT)
      generalize upd H' T (.tup [.int (i : Nat), .int c]) = H1 at sm1 ⊢
      refine ⟨_, rfl, _, rfl, c, ((i : Nat) : Int), rfl, by omega, fun s H2 s2 hs hsrc => ?_⟩
      have sm2 := sm1.trans s2
      have src := hsrc (1000 * i) (by omega)
      -- the value
      refine ⟨_, rfl, by show 2 ≤ sizeLine; decide, fun t ht => ⟨by show 8 ≤ sizeLine; decide, fun L hL => ?_⟩⟩
      have y3 := same_new (o := .tup [.int 1, .int 2]) ht
      have y4 := same_new (o := .lst [.int 0, .int (-1), .non, .str "a", .ref t, .int 600, .int 16, .str "the table is held"]) hL
      refine ⟨_, rfl, s, 8, 1000 * i, rfl, (src.same y3).same y4, by omega, by decide, by decide, fun m H5 hm src5 kp5 => ?_⟩
      obtain ⟨l5, c5, t5, hd5, _⟩ := id src
      have nLs : L ≠ s := (ne_of_none (y3 _ _ hd5) hL).symm
      have nts : t ≠ s := (ne_of_none hd5 ht).symm
      obtain ⟨v, ev, hv⟩ := pick8 (H := H5) (t := t) (kp5 _ _ (y4 _ _ upd_same) nts) m hm
      have sm5 : Same Hq H5 := fun b o e => by
        have e1 := sm1 _ _ e
        exact kp5 _ _ (y4 _ _ (y3 _ _ (s2 _ _ e1))) (ne_of_none e1 hs)
      refine ⟨L, _, (m : Int), _, rfl, rfl, SqL.of (kp5 L _ upd_same nLs), atI_nat ev, ?_⟩
      -- the rows
      refine ⟨_, rfl, v, rfl, fun r0 ts0 H6 s6 e6 n6 p6 => ?_⟩
      refine ⟨_, rfl, v, rfl, fun r1 ts1 H7 s7 e7 n7 p7 => ?_⟩
      refine ⟨_, rfl, v, rfl, fun r2 ts2 H8 s8 e8 n8 p8 => ?_⟩
      refine ⟨by show 3 ≤ sizeLine; decide, fun R hR => ?_⟩
      have y9 := same_new (o := .lst [.ref r0, .ref r1, .ref r2]) hR
      have eR : upd H8 R (.lst [.ref r0, .ref r1, .ref r2]) R = some (.lst [.ref r0, .ref r1, .ref r2]) := upd_same
      have hv9 := hv.same (s6.trans (s7.trans (s8.trans y9)))
      have sm9 := sm5.trans (s6.trans (s7.trans (s8.trans y9)))
      have rows : ∀ (j : Nat) x, ([V.ref r0, .ref r1, .ref r2] : List V)[j]? = some x → RowAt K CS (upd H8 R (.lst [.ref r0, .ref r1, .ref r2])) v j x := by
        intro j x hx
        match j, hx with
        | 0, hx => cases hx; exact ⟨r0, ts0, 0, rfl, y9 _ _ (s8 _ _ (s7 _ _ e6)), p6.same (s7.trans (s8.trans y9)), fun i hi => fam0 i (by rw [n6] at hi; exact hi)⟩
        | 1, hx => cases hx; exact ⟨r1, ts1, 8, rfl, y9 _ _ (s8 _ _ e7), p7.same (s8.trans y9), fun i hi => fam1 i (by rw [n7] at hi; exact hi)⟩
        | 2, hx => cases hx; exact ⟨r2, ts2, 11, rfl, y9 _ _ e8, p8.same y9, fun i hi => fam2 i (by rw [n8] at hi; exact hi)⟩
        | j + 3, hx => exact absurd hx (by simp)
      generalize upd H8 R (.lst [.ref r0, .ref r1, .ref r2]) = H9 at eR hv9 sm9 rows ⊢
      obtain ⟨dv, hdv, sv⟩ := hv9.dp (K := K)
      refine ⟨_, rfl, R, _, rfl, SqL.of eR, for_enumL (K := K) (a := R) (xs := [V.ref r0, .ref r1, .ref r2]) (fun j σ H' => (∃ v1 v2 v3 v6 v7 v8 v9 v10, σ = [some (.ref a), v1, v2, v3, some v, some (.ref R), v6, v7, v8, v9, v10]) ∧ Same H9 H') ⟨⟨_, _, _, _, _, _, _, _, rfl⟩, fun _ _ e => e⟩ (fun i σ H' _ h => SqL.of (h.2 _ _ eR)) ?_ ?_⟩
      · rintro j x T2 σ H10 hx ⟨⟨v1, v2, v3, v6, v7, v8, v9, v10, rfl⟩, sm10⟩ hT2
        have row := (rows j x hx).same sm10
        refine ⟨T2, _, rfl, SqT.of upd_same, rfl, _, _, rfl, _, _, rfl, rfl, ?_⟩
        have y11 := same_new (o := .tup [.int (j : Nat), x]) hT2
        have sm11 := sm10.trans y11
        have row := row.same y11
        generalize upd H10 T2 (.tup [.int (j : Nat), x]) = H11 at sm11 row ⊢
        have dj : ∀ n : Nat, decide (V.int ((j : Nat) : Int) = V.int ((n : Nat) : Int)) = decide (j = n) := fun n => decide_eq_decide.mpr ⟨fun z => by have := V.int.inj z; omega, fun z => by rw [z]⟩
        have d0 : decide (V.int ((j : Nat) : Int) = V.int 0) = decide (j = 0) := dj 0
        have d1 : decide (V.int ((j : Nat) : Int) = V.int 1) = decide (j = 1) := dj 1
        have d2 : decide (V.int ((j : Nat) : Int) = V.int 2) = decide (j = 2) := dj 2
        refine ⟨_, rfl, rfl, _, rfl, rfl, _, rfl, rfl, by show 3 ≤ sizeLine; decide, fun l hl => ?_⟩
        rw [d0, d1, d2]
        have y12 := same_new (o := .lst ((dB j).map V.bl)) hl
        refine ⟨l, 2, (dB j).map V.bl, rfl, rfl, upd_same, by decide, by decide, by show 6 ≤ sizeLine; decide, fun u hu => ?_⟩
        have y13 := y12.trans (same_new (o := .lst ((dB j ++ dB j).map V.bl)) hu)
        have eu : upd (upd H11 l (.lst ((dB j).map V.bl))) u (.lst ((dB j ++ dB j).map V.bl)) u = some (.lst ((dB j ++ dB j).map V.bl)) := upd_same
        change gName 8 _ _ (upd (upd H11 l (.lst ((dB j).map V.bl))) u (.lst ((dB j ++ dB j).map V.bl))) _
        have row := row.same y13
        have sm13 := sm11.trans y13
        generalize upd (upd H11 l (.lst ((dB j).map V.bl))) u (.lst ((dB j ++ dB j).map V.bl)) = H13 at row sm13 eu ⊢
        obtain ⟨r, ts, lo, rfl, hr1, ps, fam⟩ := row
        refine ⟨_, rfl, r, rfl, ⟨_, SqL.of hr1⟩, for_list (K := K) (a := r) (xs := ts) (fun i σ H' => (∃ v1 v2 v3 v6 v9 v10, σ = [some (.ref a), v1, v2, v3, some v, some (.ref R), v6, some (.ref r), some (.ref u), v9, v10]) ∧ Same H13 H') ⟨⟨_, _, _, _, _, _, rfl⟩, fun _ _ e => e⟩ (fun i σ H' _ h => SqL.of (h.2 _ _ hr1)) ?_ ?_⟩
        · rintro i x σ H14 hx ⟨⟨v1, v2, v3, v6, v9, v10, rfl⟩, sm14⟩
          have hil := (List.getElem?_eq_some_iff.mp hx).1
          obtain ⟨p, ae, rfl, hp, er⟩ := (ps.get hx).same sm14
          refine ⟨p, _, rfl, SqT.of hp, rfl, _, _, rfl, _, _, rfl, rfl, ?_⟩
          refine ⟨_, rfl, ae, lo + i, rfl, er, fun q1 H15 s15 e15 => ?_⟩
          rw [fam i hil] at e15
          refine ⟨_, rfl, .list ((dB j ++ dB j).map PyData.bool), .list ((dB j ++ dB j).map PyData.bool), .lst (SqL.of e15) (dp_bools _), .lst (SqL.of (s15 _ _ (sm14 _ _ eu))) (dp_bools _), shaped6 _ _ _, shaped6 _ _ _, _, rfl, iteNo (eqv6 _ _ _) ?_⟩
          refine ⟨_, rfl, ae, lo + i, rfl, er.same s15, fun H16 s16 => ?_⟩
          refine ⟨rfl, _, rfl, iteNo (by decide) ?_⟩
          have sm16 := (sm13.trans sm14).trans (s15.trans s16)
          obtain ⟨dv, hdv, sv⟩ := (hv9.same sm16).dp (K := K)
          refine ⟨_, rfl, v, dv, rfl, hdv, sv.1, sv.2.1, sv.2.2.1, sv.2.2.2, _, rfl, v, dv, rfl, hdv, sv.1, sv.2.1, sv.2.2.1, sv.2.2.2, rfl, _, rfl, iteNo (by simp) ?_⟩
          exact ⟨⟨_, _, _, _, _, _, rfl⟩, sm14.trans (s15.trans s16)⟩
        · rintro σ H14 ⟨⟨v1, v2, v3, v6, v9, v10, rfl⟩, sm14⟩
          exact ⟨⟨_, _, _, _, _, _, _, _, rfl⟩, sm13.trans sm14⟩
      · rintro σ H10 ⟨⟨v1, v2, v3, v6, v7, v8, v9, v10, rfl⟩, sm10⟩
        exact ⟨⟨_, _, _, _, _, _, _, _, _, _, rfl⟩, sm9.trans sm10⟩
    · rintro σ H' _
      exact k _
end
end K04
set_option Elab.async false
set_option linter.all false
set_option maxRecDepth 100000
set_option maxHeartbeats 4000000
namespace K04
open PySem L2 Xo
abbrev sX0 : Stmt := inClass (top 2) 0
theorem scX0 : FnScope ["self", "reason"] ["self", "reason"] (defScope sX0) := ⟨rfl, rfl, rfl, by decide +kernel, rfl, by decide +kernel, by decide +kernel⟩
abbrev sX1 : Stmt := inClass (top 3) 0
theorem scX1 : FnScope ["self", "reason"] ["self", "reason"] (defScope sX1) := ⟨rfl, rfl, rfl, by decide +kernel, rfl, by decide +kernel, by decide +kernel⟩
abbrev sX2 : Stmt := inClass (top 4) 0
theorem scX2 : FnScope ["self", "reason"] ["self", "reason"] (defScope sX2) := ⟨rfl, rfl, rfl, by decide +kernel, rfl, by decide +kernel, by decide +kernel⟩
abbrev sX3 : Stmt := inClass (top 5) 0
theorem scX3 : FnScope ["self", "index"] ["self", "index"] (defScope sX3) := ⟨rfl, rfl, rfl, by decide +kernel, rfl, by decide +kernel, by decide +kernel⟩
abbrev sX4 : Stmt := inClass (top 6) 0
theorem scX4 : FnScope ["self", "index"] ["self", "index"] (defScope sX4) := ⟨rfl, rfl, rfl, by decide +kernel, rfl, by decide +kernel, by decide +kernel⟩
abbrev sX5 : Stmt := inClass (top 7) 0
theorem scX5 : FnScope ["self", "index"] ["self", "index"] (defScope sX5) := ⟨rfl, rfl, rfl, by decide +kernel, rfl, by decide +kernel, by decide +kernel⟩
abbrev sX6 : Stmt := inClass (top 8) 0
theorem scX6 : FnScope ["self", "reason"] ["self", "reason"] (defScope sX6) := ⟨rfl, rfl, rfl, by decide +kernel, rfl, by decide +kernel, by decide +kernel⟩
abbrev sX7 : Stmt := inClass (top 9) 0
theorem scX7 : FnScope ["self", "fault"] ["self", "fault"] (defScope sX7) := ⟨rfl, rfl, rfl, by decide +kernel, rfl, by decide +kernel, by decide +kernel⟩
abbrev sX8 : Stmt := inClass (top 11) 0
theorem scX8 : FnScope ["self", "key"] ["self", "key"] (defScope sX8) := ⟨rfl, rfl, rfl, by decide +kernel, rfl, by decide +kernel, by decide +kernel⟩
abbrev sX9 : Stmt := inClass (top 12) 0
theorem scX9 : FnScope ["self", "reason"] ["self", "reason"] (defScope sX9) := ⟨rfl, rfl, rfl, by decide +kernel, rfl, by decide +kernel, by decide +kernel⟩
abbrev sX10 : Stmt := inClass (top 13) 0
theorem scX10 : FnScope ["self", "index"] ["self", "index"] (defScope sX10) := ⟨rfl, rfl, rfl, by decide +kernel, rfl, by decide +kernel, by decide +kernel⟩
abbrev sX11 : Stmt := inClass (top 15) 0
theorem scX11 : FnScope ["self", "label"] ["self", "label"] (defScope sX11) := ⟨rfl, rfl, rfl, by decide +kernel, rfl, by decide +kernel, by decide +kernel⟩
abbrev sX12 : Stmt := inClass (top 16) 0
theorem scX12 : FnScope ["self", "label"] ["self", "label"] (defScope sX12) := ⟨rfl, rfl, rfl, by decide +kernel, rfl, by decide +kernel, by decide +kernel⟩
abbrev sX13 : Stmt := inClass (top 17) 0
theorem scX13 : FnScope ["self", "limit"] ["self", "limit"] (defScope sX13) := ⟨rfl, rfl, rfl, by decide +kernel, rfl, by decide +kernel, by decide +kernel⟩
abbrev sX14 : Stmt := inClass (top 18) 0
theorem scX14 : FnScope ["self", "reason"] ["self", "reason"] (defScope sX14) := ⟨rfl, rfl, rfl, by decide +kernel, rfl, by decide +kernel, by decide +kernel⟩
abbrev sX15 : Stmt := inClass (top 19) 0
theorem scX15 : FnScope ["self", "reason"] ["self", "reason"] (defScope sX15) := ⟨rfl, rfl, rfl, by decide +kernel, rfl, by decide +kernel, by decide +kernel⟩
abbrev sX16 : Stmt := inClass (top 20) 0
theorem scX16 : FnScope ["self", "expected"] ["self", "expected"] (defScope sX16) := ⟨rfl, rfl, rfl, by decide +kernel, rfl, by decide +kernel, by decide +kernel⟩
abbrev sX17 : Stmt := inClass (top 21) 0
theorem scX17 : FnScope ["self", "reason"] ["self", "reason"] (defScope sX17) := ⟨rfl, rfl, rfl, by decide +kernel, rfl, by decide +kernel, by decide +kernel⟩
abbrev sX18 : Stmt := inClass (top 22) 0
theorem scX18 : FnScope ["self", "limit"] ["self", "limit"] (defScope sX18) := ⟨rfl, rfl, rfl, by decide +kernel, rfl, by decide +kernel, by decide +kernel⟩
/-- what the written part says of an error's class, in one question -/
def xcB (K : PySem.W.Frag) (C : Addr) (bm : List Value) (newId : String) : Bool :=
  PySem.W.excInitIn K C bm newId && (PySem.W.excOver K C bm && (PySem.W.hasDictIn K C && (PySem.W.findIn K (.ref C) "__setattr__" == some (some (.builtin "object.__setattr__")) && (PySem.W.findIn K (.ref C) "__getattribute__" == some (some (.builtin "BaseException.__getattribute__")) &&
  (PySem.W.findIn K (.ref C) "__getattr__" == some none && (PySem.W.subIn K (.ref C) (.type "BaseException") == some true && (PySem.W.typeIn K (.ref C) == some (.type "type") && (PySem.W.keepIn K (.ref C) && (PySem.W.findIn K (.ref C) "__class__" == some (some (.builtin "object.__class__")) &&
  (PySem.W.specialIn K (.builtin "object.__class__") "__get__" == some (some (.builtin "getset_descriptor.__get__")) && (PySem.W.takesIn K (.builtin "object.__class__") == some true && PySem.W.mroIn K C (.type "object") == some true)))))))))))
theorem xc_of {K : PySem.W.Frag} {C : Addr} {B newId initId : String} {bm : List Value} (fb : ExcBaseFacts B newId initId bm) (sf : StoreFacts B bm "object.__setattr__" "object") (h : xcB K C bm newId = true) : XC K C ∧ ExcC K C := by
  unfold xcB at h
  simp only [Bool.and_eq_true, beq_iff_eq] at h
  obtain ⟨h1, h2, h3, h4, h5, h6, h7, h8, h9, h10, h11, h12, h13⟩ := h
  exact ⟨⟨⟨B, newId, initId, bm, fb, sf, h1, h2⟩, h3, h4, h5, h6, h7, h8, h9⟩, ⟨h5, h6, h7, h3, h10, h11, h12, h13⟩⟩
def kinB (K : PySem.W.Frag) (CS : List Addr) (T A F : Addr) : Bool := CS.zipIdx.all fun p =>
  PySem.W.kitOne K (.ref p.1) (.ref T) == some (decide (p.2 < 8)) && (PySem.W.kitOne K (.ref p.1) (.ref A) == some (decide (8 ≤ p.2 ∧ p.2 < 11)) && (PySem.W.kitOne K (.ref p.1) (.ref F) == some (decide (11 ≤ p.2)) &&
  (PySem.W.kitOne K (.ref p.1) (.type "ValueError") == some (decide (p.2 < 8)) && (PySem.W.kitOne K (.ref p.1) (.type "LookupError") == some (decide (8 ≤ p.2 ∧ p.2 < 11)) && (PySem.W.kitOne K (.ref p.1) (.type "RuntimeError") == some (decide (11 ≤ p.2)) &&
  CS.zipIdx.all fun q => PySem.W.kitOne K (.ref p.1) (.ref q.1) == some (decide (p.2 = q.2)))))))
theorem kin_of {K : PySem.W.Frag} {CS : List Addr} {T A F : Addr} (h : kinB K CS T A F = true) (hl : CS.length = 19) : Kin K CS T A F := by
  have hm : ∀ (i : Nat) (C : Addr), CS[i]? = some C → (C, i) ∈ CS.zipIdx := fun i C e => List.mk_mem_zipIdx_iff_getElem?.mpr e
  have hh : ∀ (i : Nat) (C : Addr), CS[i]? = some C → _ := fun i C e => List.all_eq_true.mp h (C, i) (hm i C e)
  simp only [Bool.and_eq_true, beq_iff_eq] at hh
  refine ⟨fun i C e => (hh i C e).1, fun i C e => (hh i C e).2.1, fun i C e => (hh i C e).2.2.1, fun i C e => (hh i C e).2.2.2.1, fun i C e => (hh i C e).2.2.2.2.1, fun i C e => (hh i C e).2.2.2.2.2.1, fun i j C D e e2 => ?_, hl⟩
  have := List.all_eq_true.mp (hh i C e).2.2.2.2.2.2 (D, j) (hm j D e2)
  exact beq_iff_eq.mp this
theorem all_mk {l : PySem.W.OpenLaw} {w : World} {K : PySem.W.Frag} {h : Heap} {mg : Str → Option Value} {fa fMx fDr fDg fIn fAb fFa fFm fCl fL T A F c0 mX0 c1 mX1 c2 mX2 c3 mX3 c4 mX4 c5 mX5 c6 mX6 c7 mX7 c8 mX8 c9 mX9 c10 mX10 c11 mX11 c12 mX12 c13 mX13 c14 mX14 c15 mX15 c16 mX16 c17 mX17 c18 mX18 : Addr} (X : K.In h) (G : h.Ns mainGlobals mg) (hfa : mg "law" = some (.ref fa))
    {odMx anMx : Option Addr} {slMx : Array (Option Value)} {ocMx kVMx dcMx pmMx ctMx : Value} {cdMx : Value} {odDr anDr : Option Addr} {slDr : Array (Option Value)} {ocDr kVDr dcDr pmDr ctDr : Value} {cdDr : Value} {odDg anDg : Option Addr} {slDg : Array (Option Value)} {ocDg kVDg dcDg pmDg ctDg : Value} {cdDg : Value} {odIn anIn : Option Addr} {slIn : Array (Option Value)} {ocIn kVIn dcIn pmIn ctIn : Value} {cdIn : Value} {odAb anAb : Option Addr} {slAb : Array (Option Value)} {ocAb kVAb dcAb pmAb ctAb : Value} {cdAb : Value} {odFa anFa : Option Addr} {slFa : Array (Option Value)} {ocFa kVFa dcFa pmFa ctFa : Value} {cdFa : Value} {odFm anFm : Option Addr} {slFm : Array (Option Value)} {ocFm kVFm dcFm pmFm ctFm : Value} {cdFm : Value} {odCl anCl : Option Addr} {slCl : Array (Option Value)} {ocCl kVCl dcCl pmCl ctCl : Value} {cdCl : Value} {odL anL : Option Addr} {slL : Array (Option Value)} {ocL kVL dcL pmL ctL : Value} {cdL : Value} {odX0 anX0 : Option Addr} {slX0 : Array (Option Value)} {ocX0 kVX0 dcX0 pmX0 ctX0 : Value} {cdX0 : Value} {odX1 anX1 : Option Addr} {slX1 : Array (Option Value)} {ocX1 kVX1 dcX1 pmX1 ctX1 : Value} {cdX1 : Value} {odX2 anX2 : Option Addr} {slX2 : Array (Option Value)} {ocX2 kVX2 dcX2 pmX2 ctX2 : Value} {cdX2 : Value} {odX3 anX3 : Option Addr} {slX3 : Array (Option Value)} {ocX3 kVX3 dcX3 pmX3 ctX3 : Value} {cdX3 : Value} {odX4 anX4 : Option Addr} {slX4 : Array (Option Value)} {ocX4 kVX4 dcX4 pmX4 ctX4 : Value} {cdX4 : Value} {odX5 anX5 : Option Addr} {slX5 : Array (Option Value)} {ocX5 kVX5 dcX5 pmX5 ctX5 : Value} {cdX5 : Value} {odX6 anX6 : Option Addr} {slX6 : Array (Option Value)} {ocX6 kVX6 dcX6 pmX6 ctX6 : Value} {cdX6 : Value} {odX7 anX7 : Option Addr} {slX7 : Array (Option Value)} {ocX7 kVX7 dcX7 pmX7 ctX7 : Value} {cdX7 : Value} {odX8 anX8 : Option Addr} {slX8 : Array (Option Value)} {ocX8 kVX8 dcX8 pmX8 ctX8 : Value} {cdX8 : Value} {odX9 anX9 : Option Addr} {slX9 : Array (Option Value)} {ocX9 kVX9 dcX9 pmX9 ctX9 : Value} {cdX9 : Value} {odX10 anX10 : Option Addr} {slX10 : Array (Option Value)} {ocX10 kVX10 dcX10 pmX10 ctX10 : Value} {cdX10 : Value} {odX11 anX11 : Option Addr} {slX11 : Array (Option Value)} {ocX11 kVX11 dcX11 pmX11 ctX11 : Value} {cdX11 : Value} {odX12 anX12 : Option Addr} {slX12 : Array (Option Value)} {ocX12 kVX12 dcX12 pmX12 ctX12 : Value} {cdX12 : Value} {odX13 anX13 : Option Addr} {slX13 : Array (Option Value)} {ocX13 kVX13 dcX13 pmX13 ctX13 : Value} {cdX13 : Value} {odX14 anX14 : Option Addr} {slX14 : Array (Option Value)} {ocX14 kVX14 dcX14 pmX14 ctX14 : Value} {cdX14 : Value} {odX15 anX15 : Option Addr} {slX15 : Array (Option Value)} {ocX15 kVX15 dcX15 pmX15 ctX15 : Value} {cdX15 : Value} {odX16 anX16 : Option Addr} {slX16 : Array (Option Value)} {ocX16 kVX16 dcX16 pmX16 ctX16 : Value} {cdX16 : Value} {odX17 anX17 : Option Addr} {slX17 : Array (Option Value)} {ocX17 kVX17 dcX17 pmX17 ctX17 : Value} {cdX17 : Value} {odX18 anX18 : Option Addr} {slX18 : Array (Option Value)} {ocX18 kVX18 dcX18 pmX18 ctX18 : Value} {cdX18 : Value}
    (aMx : PySem.W.nsIn K mainGlobals "_law_mixed" = some (some (.ref fMx)))
    (lMx : K.lookup fMx = some ⟨ocMx, odMx, .func (PySem.W.fnOf "_law_mixed" "_law_mixed" (defArgs sMixed) (defBody sMixed) (defScope sMixed) .none kVMx dcMx pmMx anMx cdMx ctMx), slMx⟩)
    (cMx : PySem.W.codeIn K cdMx "_law_mixed" = true)
    (kMx : PySem.W.keepIn K (.ref fMx) = true)
    (aDr : PySem.W.nsIn K mainGlobals "_law_draw" = some (some (.ref fDr)))
    (lDr : K.lookup fDr = some ⟨ocDr, odDr, .func (PySem.W.fnOf "_law_draw" "_law_draw" (defArgs sDraw) (defBody sDraw) (defScope sDraw) .none kVDr dcDr pmDr anDr cdDr ctDr), slDr⟩)
    (cDr : PySem.W.codeIn K cdDr "_law_draw" = true)
    (kDr : PySem.W.keepIn K (.ref fDr) = true)
    (aDg : PySem.W.nsIn K mainGlobals "_law_digit" = some (some (.ref fDg)))
    (lDg : K.lookup fDg = some ⟨ocDg, odDg, .func (PySem.W.fnOf "_law_digit" "_law_digit" (defArgs sDigit) (defBody sDigit) (defScope sDigit) .none kVDg dcDg pmDg anDg cdDg ctDg), slDg⟩)
    (cDg : PySem.W.codeIn K cdDg "_law_digit" = true)
    (kDg : PySem.W.keepIn K (.ref fDg) = true)
    (aIn : PySem.W.nsIn K mainGlobals "_law_input_errors" = some (some (.ref fIn)))
    (lIn : K.lookup fIn = some ⟨ocIn, odIn, .func (PySem.W.fnOf "_law_input_errors" "_law_input_errors" (defArgs sInp) (defBody sInp) (defScope sInp) .none kVIn dcIn pmIn anIn cdIn ctIn), slIn⟩)
    (cIn : PySem.W.codeIn K cdIn "_law_input_errors" = true)
    (kIn : PySem.W.keepIn K (.ref fIn) = true)
    (aAb : PySem.W.nsIn K mainGlobals "_law_absences" = some (some (.ref fAb)))
    (lAb : K.lookup fAb = some ⟨ocAb, odAb, .func (PySem.W.fnOf "_law_absences" "_law_absences" (defArgs sAbs) (defBody sAbs) (defScope sAbs) .none kVAb dcAb pmAb anAb cdAb ctAb), slAb⟩)
    (cAb : PySem.W.codeIn K cdAb "_law_absences" = true)
    (kAb : PySem.W.keepIn K (.ref fAb) = true)
    (aFa : PySem.W.nsIn K mainGlobals "_law_faults" = some (some (.ref fFa)))
    (lFa : K.lookup fFa = some ⟨ocFa, odFa, .func (PySem.W.fnOf "_law_faults" "_law_faults" (defArgs sFau) (defBody sFau) (defScope sFau) .none kVFa dcFa pmFa anFa cdFa ctFa), slFa⟩)
    (cFa : PySem.W.codeIn K cdFa "_law_faults" = true)
    (kFa : PySem.W.keepIn K (.ref fFa) = true)
    (aFm : PySem.W.nsIn K mainGlobals "_law_families" = some (some (.ref fFm)))
    (lFm : K.lookup fFm = some ⟨ocFm, odFm, .func (PySem.W.fnOf "_law_families" "_law_families" (defArgs sFam) (defBody sFam) (defScope sFam) .none kVFm dcFm pmFm anFm cdFm ctFm), slFm⟩)
    (cFm : PySem.W.codeIn K cdFm "_law_families" = true)
    (kFm : PySem.W.keepIn K (.ref fFm) = true)
    (aCl : PySem.W.nsIn K mainGlobals "_law_classes" = some (some (.ref fCl)))
    (lCl : K.lookup fCl = some ⟨ocCl, odCl, .func (PySem.W.fnOf "_law_classes" "_law_classes" (defArgs sCls) (defBody sCls) (defScope sCls) .none kVCl dcCl pmCl anCl cdCl ctCl), slCl⟩)
    (cCl : PySem.W.codeIn K cdCl "_law_classes" = true)
    (kCl : PySem.W.keepIn K (.ref fCl) = true)
    (aL : PySem.W.nsIn K mainGlobals "law" = some (some (.ref fL)))
    (lL : K.lookup fL = some ⟨ocL, odL, .func (PySem.W.fnOf "law" "law" (defArgs sLaw) (defBody sLaw) (defScope sLaw) .none kVL dcL pmL anL cdL ctL), slL⟩)
    (cL : PySem.W.codeIn K cdL "law" = true)
    (kL : PySem.W.keepIn K (.ref fL) = true)
    (gTableError : PySem.W.nsIn K mainGlobals "TableError" = some (some (.ref T)))
    (gAbsent : PySem.W.nsIn K mainGlobals "Absent" = some (some (.ref A)))
    (gFault : PySem.W.nsIn K mainGlobals "Fault" = some (some (.ref F)))
    (gBadKey : PySem.W.nsIn K mainGlobals "BadKey" = some (some (.ref c0)))
    (w0 : xcB K c0 [.type "ValueError", .type "Exception", .type "BaseException", .type "object"] "ValueError.__new__" = true)
    (aX0 : PySem.W.findIn K (.ref c0) "__init__" = some (some (.ref mX0)))
    (iX0 : PySem.W.typeIn K (.ref mX0) = some (.type "function"))
    (jX0 : PySem.W.findIn K (.ref c0) "reason" = some none)
    (lX0 : K.lookup mX0 = some ⟨ocX0, odX0, .func (PySem.W.fnOf "__init__" "BadKey.__init__" (defArgs sX0) (defBody sX0) (defScope sX0) .none kVX0 dcX0 pmX0 anX0 cdX0 ctX0), slX0⟩)
    (cX0 : PySem.W.codeIn K cdX0 "BadKey.__init__" = true)
    (kX0 : PySem.W.keepIn K (.ref mX0) = true)
    (gBadCode : PySem.W.nsIn K mainGlobals "BadCode" = some (some (.ref c1)))
    (w1 : xcB K c1 [.type "ValueError", .type "Exception", .type "BaseException", .type "object"] "ValueError.__new__" = true)
    (aX1 : PySem.W.findIn K (.ref c1) "__init__" = some (some (.ref mX1)))
    (iX1 : PySem.W.typeIn K (.ref mX1) = some (.type "function"))
    (jX1 : PySem.W.findIn K (.ref c1) "reason" = some none)
    (lX1 : K.lookup mX1 = some ⟨ocX1, odX1, .func (PySem.W.fnOf "__init__" "BadCode.__init__" (defArgs sX1) (defBody sX1) (defScope sX1) .none kVX1 dcX1 pmX1 anX1 cdX1 ctX1), slX1⟩)
    (cX1 : PySem.W.codeIn K cdX1 "BadCode.__init__" = true)
    (kX1 : PySem.W.keepIn K (.ref mX1) = true)
    (gBadSize : PySem.W.nsIn K mainGlobals "BadSize" = some (some (.ref c2)))
    (w2 : xcB K c2 [.type "ValueError", .type "Exception", .type "BaseException", .type "object"] "ValueError.__new__" = true)
    (aX2 : PySem.W.findIn K (.ref c2) "__init__" = some (some (.ref mX2)))
    (iX2 : PySem.W.typeIn K (.ref mX2) = some (.type "function"))
    (jX2 : PySem.W.findIn K (.ref c2) "reason" = some none)
    (lX2 : K.lookup mX2 = some ⟨ocX2, odX2, .func (PySem.W.fnOf "__init__" "BadSize.__init__" (defArgs sX2) (defBody sX2) (defScope sX2) .none kVX2 dcX2 pmX2 anX2 cdX2 ctX2), slX2⟩)
    (cX2 : PySem.W.codeIn K cdX2 "BadSize.__init__" = true)
    (kX2 : PySem.W.keepIn K (.ref mX2) = true)
    (gBadStep : PySem.W.nsIn K mainGlobals "BadStep" = some (some (.ref c3)))
    (w3 : xcB K c3 [.type "ValueError", .type "Exception", .type "BaseException", .type "object"] "ValueError.__new__" = true)
    (aX3 : PySem.W.findIn K (.ref c3) "__init__" = some (some (.ref mX3)))
    (iX3 : PySem.W.typeIn K (.ref mX3) = some (.type "function"))
    (jX3 : PySem.W.findIn K (.ref c3) "index" = some none)
    (lX3 : K.lookup mX3 = some ⟨ocX3, odX3, .func (PySem.W.fnOf "__init__" "BadStep.__init__" (defArgs sX3) (defBody sX3) (defScope sX3) .none kVX3 dcX3 pmX3 anX3 cdX3 ctX3), slX3⟩)
    (cX3 : PySem.W.codeIn K cdX3 "BadStep.__init__" = true)
    (kX3 : PySem.W.keepIn K (.ref mX3) = true)
    (gBadPicture : PySem.W.nsIn K mainGlobals "BadPicture" = some (some (.ref c4)))
    (w4 : xcB K c4 [.type "ValueError", .type "Exception", .type "BaseException", .type "object"] "ValueError.__new__" = true)
    (aX4 : PySem.W.findIn K (.ref c4) "__init__" = some (some (.ref mX4)))
    (iX4 : PySem.W.typeIn K (.ref mX4) = some (.type "function"))
    (jX4 : PySem.W.findIn K (.ref c4) "index" = some none)
    (lX4 : K.lookup mX4 = some ⟨ocX4, odX4, .func (PySem.W.fnOf "__init__" "BadPicture.__init__" (defArgs sX4) (defBody sX4) (defScope sX4) .none kVX4 dcX4 pmX4 anX4 cdX4 ctX4), slX4⟩)
    (cX4 : PySem.W.codeIn K cdX4 "BadPicture.__init__" = true)
    (kX4 : PySem.W.keepIn K (.ref mX4) = true)
    (gBadPairs : PySem.W.nsIn K mainGlobals "BadPairs" = some (some (.ref c5)))
    (w5 : xcB K c5 [.type "ValueError", .type "Exception", .type "BaseException", .type "object"] "ValueError.__new__" = true)
    (aX5 : PySem.W.findIn K (.ref c5) "__init__" = some (some (.ref mX5)))
    (iX5 : PySem.W.typeIn K (.ref mX5) = some (.type "function"))
    (jX5 : PySem.W.findIn K (.ref c5) "index" = some none)
    (lX5 : K.lookup mX5 = some ⟨ocX5, odX5, .func (PySem.W.fnOf "__init__" "BadPairs.__init__" (defArgs sX5) (defBody sX5) (defScope sX5) .none kVX5 dcX5 pmX5 anX5 cdX5 ctX5), slX5⟩)
    (cX5 : PySem.W.codeIn K cdX5 "BadPairs.__init__" = true)
    (kX5 : PySem.W.keepIn K (.ref mX5) = true)
    (gBadView : PySem.W.nsIn K mainGlobals "BadView" = some (some (.ref c6)))
    (w6 : xcB K c6 [.type "ValueError", .type "Exception", .type "BaseException", .type "object"] "ValueError.__new__" = true)
    (aX6 : PySem.W.findIn K (.ref c6) "__init__" = some (some (.ref mX6)))
    (iX6 : PySem.W.typeIn K (.ref mX6) = some (.type "function"))
    (jX6 : PySem.W.findIn K (.ref c6) "reason" = some none)
    (lX6 : K.lookup mX6 = some ⟨ocX6, odX6, .func (PySem.W.fnOf "__init__" "BadView.__init__" (defArgs sX6) (defBody sX6) (defScope sX6) .none kVX6 dcX6 pmX6 anX6 cdX6 ctX6), slX6⟩)
    (cX6 : PySem.W.codeIn K cdX6 "BadView.__init__" = true)
    (kX6 : PySem.W.keepIn K (.ref mX6) = true)
    (gBadLayout : PySem.W.nsIn K mainGlobals "BadLayout" = some (some (.ref c7)))
    (w7 : xcB K c7 [.type "ValueError", .type "Exception", .type "BaseException", .type "object"] "ValueError.__new__" = true)
    (aX7 : PySem.W.findIn K (.ref c7) "__init__" = some (some (.ref mX7)))
    (iX7 : PySem.W.typeIn K (.ref mX7) = some (.type "function"))
    (jX7 : PySem.W.findIn K (.ref c7) "fault" = some none)
    (lX7 : K.lookup mX7 = some ⟨ocX7, odX7, .func (PySem.W.fnOf "__init__" "BadLayout.__init__" (defArgs sX7) (defBody sX7) (defScope sX7) .none kVX7 dcX7 pmX7 anX7 cdX7 ctX7), slX7⟩)
    (cX7 : PySem.W.codeIn K cdX7 "BadLayout.__init__" = true)
    (kX7 : PySem.W.keepIn K (.ref mX7) = true)
    (gMissing : PySem.W.nsIn K mainGlobals "Missing" = some (some (.ref c8)))
    (w8 : xcB K c8 [.type "LookupError", .type "Exception", .type "BaseException", .type "object"] "LookupError.__new__" = true)
    (aX8 : PySem.W.findIn K (.ref c8) "__init__" = some (some (.ref mX8)))
    (iX8 : PySem.W.typeIn K (.ref mX8) = some (.type "function"))
    (jX8 : PySem.W.findIn K (.ref c8) "key" = some none)
    (lX8 : K.lookup mX8 = some ⟨ocX8, odX8, .func (PySem.W.fnOf "__init__" "Missing.__init__" (defArgs sX8) (defBody sX8) (defScope sX8) .none kVX8 dcX8 pmX8 anX8 cdX8 ctX8), slX8⟩)
    (cX8 : PySem.W.codeIn K cdX8 "Missing.__init__" = true)
    (kX8 : PySem.W.keepIn K (.ref mX8) = true)
    (gEmpty : PySem.W.nsIn K mainGlobals "Empty" = some (some (.ref c9)))
    (w9 : xcB K c9 [.type "LookupError", .type "Exception", .type "BaseException", .type "object"] "LookupError.__new__" = true)
    (aX9 : PySem.W.findIn K (.ref c9) "__init__" = some (some (.ref mX9)))
    (iX9 : PySem.W.typeIn K (.ref mX9) = some (.type "function"))
    (jX9 : PySem.W.findIn K (.ref c9) "reason" = some none)
    (lX9 : K.lookup mX9 = some ⟨ocX9, odX9, .func (PySem.W.fnOf "__init__" "Empty.__init__" (defArgs sX9) (defBody sX9) (defScope sX9) .none kVX9 dcX9 pmX9 anX9 cdX9 ctX9), slX9⟩)
    (cX9 : PySem.W.codeIn K cdX9 "Empty.__init__" = true)
    (kX9 : PySem.W.keepIn K (.ref mX9) = true)
    (gNoEntry : PySem.W.nsIn K mainGlobals "NoEntry" = some (some (.ref c10)))
    (w10 : xcB K c10 [.type "LookupError", .type "Exception", .type "BaseException", .type "object"] "LookupError.__new__" = true)
    (aX10 : PySem.W.findIn K (.ref c10) "__init__" = some (some (.ref mX10)))
    (iX10 : PySem.W.typeIn K (.ref mX10) = some (.type "function"))
    (jX10 : PySem.W.findIn K (.ref c10) "index" = some none)
    (lX10 : K.lookup mX10 = some ⟨ocX10, odX10, .func (PySem.W.fnOf "__init__" "NoEntry.__init__" (defArgs sX10) (defBody sX10) (defScope sX10) .none kVX10 dcX10 pmX10 anX10 cdX10 ctX10), slX10⟩)
    (cX10 : PySem.W.codeIn K cdX10 "NoEntry.__init__" = true)
    (kX10 : PySem.W.keepIn K (.ref mX10) = true)
    (gCodeFault : PySem.W.nsIn K mainGlobals "CodeFault" = some (some (.ref c11)))
    (w11 : xcB K c11 [.type "RuntimeError", .type "Exception", .type "BaseException", .type "object"] "RuntimeError.__new__" = true)
    (aX11 : PySem.W.findIn K (.ref c11) "__init__" = some (some (.ref mX11)))
    (iX11 : PySem.W.typeIn K (.ref mX11) = some (.type "function"))
    (jX11 : PySem.W.findIn K (.ref c11) "label" = some none)
    (lX11 : K.lookup mX11 = some ⟨ocX11, odX11, .func (PySem.W.fnOf "__init__" "CodeFault.__init__" (defArgs sX11) (defBody sX11) (defScope sX11) .none kVX11 dcX11 pmX11 anX11 cdX11 ctX11), slX11⟩)
    (cX11 : PySem.W.codeIn K cdX11 "CodeFault.__init__" = true)
    (kX11 : PySem.W.keepIn K (.ref mX11) = true)
    (gMatchFault : PySem.W.nsIn K mainGlobals "MatchFault" = some (some (.ref c12)))
    (w12 : xcB K c12 [.type "RuntimeError", .type "Exception", .type "BaseException", .type "object"] "RuntimeError.__new__" = true)
    (aX12 : PySem.W.findIn K (.ref c12) "__init__" = some (some (.ref mX12)))
    (iX12 : PySem.W.typeIn K (.ref mX12) = some (.type "function"))
    (jX12 : PySem.W.findIn K (.ref c12) "label" = some none)
    (lX12 : K.lookup mX12 = some ⟨ocX12, odX12, .func (PySem.W.fnOf "__init__" "MatchFault.__init__" (defArgs sX12) (defBody sX12) (defScope sX12) .none kVX12 dcX12 pmX12 anX12 cdX12 ctX12), slX12⟩)
    (cX12 : PySem.W.codeIn K cdX12 "MatchFault.__init__" = true)
    (kX12 : PySem.W.keepIn K (.ref mX12) = true)
    (gUnsettled : PySem.W.nsIn K mainGlobals "Unsettled" = some (some (.ref c13)))
    (w13 : xcB K c13 [.type "RuntimeError", .type "Exception", .type "BaseException", .type "object"] "RuntimeError.__new__" = true)
    (aX13 : PySem.W.findIn K (.ref c13) "__init__" = some (some (.ref mX13)))
    (iX13 : PySem.W.typeIn K (.ref mX13) = some (.type "function"))
    (jX13 : PySem.W.findIn K (.ref c13) "limit" = some none)
    (lX13 : K.lookup mX13 = some ⟨ocX13, odX13, .func (PySem.W.fnOf "__init__" "Unsettled.__init__" (defArgs sX13) (defBody sX13) (defScope sX13) .none kVX13 dcX13 pmX13 anX13 cdX13 ctX13), slX13⟩)
    (cX13 : PySem.W.codeIn K cdX13 "Unsettled.__init__" = true)
    (kX13 : PySem.W.keepIn K (.ref mX13) = true)
    (gLocked : PySem.W.nsIn K mainGlobals "Locked" = some (some (.ref c14)))
    (w14 : xcB K c14 [.type "RuntimeError", .type "Exception", .type "BaseException", .type "object"] "RuntimeError.__new__" = true)
    (aX14 : PySem.W.findIn K (.ref c14) "__init__" = some (some (.ref mX14)))
    (iX14 : PySem.W.typeIn K (.ref mX14) = some (.type "function"))
    (jX14 : PySem.W.findIn K (.ref c14) "reason" = some none)
    (lX14 : K.lookup mX14 = some ⟨ocX14, odX14, .func (PySem.W.fnOf "__init__" "Locked.__init__" (defArgs sX14) (defBody sX14) (defScope sX14) .none kVX14 dcX14 pmX14 anX14 cdX14 ctX14), slX14⟩)
    (cX14 : PySem.W.codeIn K cdX14 "Locked.__init__" = true)
    (kX14 : PySem.W.keepIn K (.ref mX14) = true)
    (gNotHeld : PySem.W.nsIn K mainGlobals "NotHeld" = some (some (.ref c15)))
    (w15 : xcB K c15 [.type "RuntimeError", .type "Exception", .type "BaseException", .type "object"] "RuntimeError.__new__" = true)
    (aX15 : PySem.W.findIn K (.ref c15) "__init__" = some (some (.ref mX15)))
    (iX15 : PySem.W.typeIn K (.ref mX15) = some (.type "function"))
    (jX15 : PySem.W.findIn K (.ref c15) "reason" = some none)
    (lX15 : K.lookup mX15 = some ⟨ocX15, odX15, .func (PySem.W.fnOf "__init__" "NotHeld.__init__" (defArgs sX15) (defBody sX15) (defScope sX15) .none kVX15 dcX15 pmX15 anX15 cdX15 ctX15), slX15⟩)
    (cX15 : PySem.W.codeIn K cdX15 "NotHeld.__init__" = true)
    (kX15 : PySem.W.keepIn K (.ref mX15) = true)
    (gChangedSize : PySem.W.nsIn K mainGlobals "ChangedSize" = some (some (.ref c16)))
    (w16 : xcB K c16 [.type "RuntimeError", .type "Exception", .type "BaseException", .type "object"] "RuntimeError.__new__" = true)
    (aX16 : PySem.W.findIn K (.ref c16) "__init__" = some (some (.ref mX16)))
    (iX16 : PySem.W.typeIn K (.ref mX16) = some (.type "function"))
    (jX16 : PySem.W.findIn K (.ref c16) "expected" = some none)
    (lX16 : K.lookup mX16 = some ⟨ocX16, odX16, .func (PySem.W.fnOf "__init__" "ChangedSize.__init__" (defArgs sX16) (defBody sX16) (defScope sX16) .none kVX16 dcX16 pmX16 anX16 cdX16 ctX16), slX16⟩)
    (cX16 : PySem.W.codeIn K cdX16 "ChangedSize.__init__" = true)
    (kX16 : PySem.W.keepIn K (.ref mX16) = true)
    (gChangedKeys : PySem.W.nsIn K mainGlobals "ChangedKeys" = some (some (.ref c17)))
    (w17 : xcB K c17 [.type "RuntimeError", .type "Exception", .type "BaseException", .type "object"] "RuntimeError.__new__" = true)
    (aX17 : PySem.W.findIn K (.ref c17) "__init__" = some (some (.ref mX17)))
    (iX17 : PySem.W.typeIn K (.ref mX17) = some (.type "function"))
    (jX17 : PySem.W.findIn K (.ref c17) "reason" = some none)
    (lX17 : K.lookup mX17 = some ⟨ocX17, odX17, .func (PySem.W.fnOf "__init__" "ChangedKeys.__init__" (defArgs sX17) (defBody sX17) (defScope sX17) .none kVX17 dcX17 pmX17 anX17 cdX17 ctX17), slX17⟩)
    (cX17 : PySem.W.codeIn K cdX17 "ChangedKeys.__init__" = true)
    (kX17 : PySem.W.keepIn K (.ref mX17) = true)
    (gTooLarge : PySem.W.nsIn K mainGlobals "TooLarge" = some (some (.ref c18)))
    (w18 : xcB K c18 [.type "RuntimeError", .type "Exception", .type "BaseException", .type "object"] "RuntimeError.__new__" = true)
    (aX18 : PySem.W.findIn K (.ref c18) "__init__" = some (some (.ref mX18)))
    (iX18 : PySem.W.typeIn K (.ref mX18) = some (.type "function"))
    (jX18 : PySem.W.findIn K (.ref c18) "limit" = some none)
    (lX18 : K.lookup mX18 = some ⟨ocX18, odX18, .func (PySem.W.fnOf "__init__" "TooLarge.__init__" (defArgs sX18) (defBody sX18) (defScope sX18) .none kVX18 dcX18 pmX18 anX18 cdX18 ctX18), slX18⟩)
    (cX18 : PySem.W.codeIn K cdX18 "TooLarge.__init__" = true)
    (kX18 : PySem.W.keepIn K (.ref mX18) = true)
    (kin : kinB K [c0, c1, c2, c3, c4, c5, c6, c7, c8, c9, c10, c11, c12, c13, c14, c15, c16, c17, c18] T A F = true)
    (zisinstance : PySem.W.nsIn K mainGlobals "isinstance" = some none)
    (zint : PySem.W.nsIn K mainGlobals "int" = some none)
    (zbool : PySem.W.nsIn K mainGlobals "bool" = some none)
    (zlist : PySem.W.nsIn K mainGlobals "list" = some none)
    (zrange : PySem.W.nsIn K mainGlobals "range" = some none)
    (zlen : PySem.W.nsIn K mainGlobals "len" = some none)
    (zmin : PySem.W.nsIn K mainGlobals "min" = some none)
    (zmax : PySem.W.nsIn K mainGlobals "max" = some none)
    (zsorted : PySem.W.nsIn K mainGlobals "sorted" = some none)
    (zenumerate : PySem.W.nsIn K mainGlobals "enumerate" = some none)
    (zrepr : PySem.W.nsIn K mainGlobals "repr" = some none)
    (ztuple : PySem.W.nsIn K mainGlobals "tuple" = some none)
    (zdivmod : PySem.W.nsIn K mainGlobals "divmod" = some none)
    (zsum : PySem.W.nsIn K mainGlobals "sum" = some none)
    (zValueError : PySem.W.nsIn K mainGlobals "ValueError" = some none)
    (zLookupError : PySem.W.nsIn K mainGlobals "LookupError" = some none)
    (zRuntimeError : PySem.W.nsIn K mainGlobals "RuntimeError" = some none) :
    Gd.LawAtG l w K 4 63 "script" mg fa h := by
  have FMx := fun_mk (st := sMixed) lMx cMx kMx
  have dMx : Df K mg "_law_mixed" "_law_mixed" sMixed ["cell", "k"] fMx _ := ⟨FMx, FMx.binds (ps := ["cell", "k"]) (fun _ _ _ _ _ _ us hl => match us, hl with | [_, _], _ => rfl), PySem.W.mg_of X G aMx⟩
  have FDr := fun_mk (st := sDraw) lDr cDr kDr
  have dDr : Df K mg "_law_draw" "_law_draw" sDraw ["cell", "k"] fDr _ := ⟨FDr, FDr.binds (ps := ["cell", "k"]) (fun _ _ _ _ _ _ us hl => match us, hl with | [_, _], _ => rfl), PySem.W.mg_of X G aDr⟩
  have FDg := fun_mk (st := sDigit) lDg cDg kDg
  have dDg : Df K mg "_law_digit" "_law_digit" sDigit ["state", "size"] fDg _ := ⟨FDg, FDg.binds (ps := ["state", "size"]) (fun _ _ _ _ _ _ us hl => match us, hl with | [_, _], _ => rfl), PySem.W.mg_of X G aDg⟩
  have FIn := fun_mk (st := sInp) lIn cIn kIn
  have dIn : Df K mg "_law_input_errors" "_law_input_errors" sInp ["value"] fIn _ := ⟨FIn, FIn.binds (ps := ["value"]) (fun _ _ _ _ _ _ us hl => match us, hl with | [_], _ => rfl), PySem.W.mg_of X G aIn⟩
  have FAb := fun_mk (st := sAbs) lAb cAb kAb
  have dAb : Df K mg "_law_absences" "_law_absences" sAbs ["value"] fAb _ := ⟨FAb, FAb.binds (ps := ["value"]) (fun _ _ _ _ _ _ us hl => match us, hl with | [_], _ => rfl), PySem.W.mg_of X G aAb⟩
  have FFa := fun_mk (st := sFau) lFa cFa kFa
  have dFa : Df K mg "_law_faults" "_law_faults" sFau ["value"] fFa _ := ⟨FFa, FFa.binds (ps := ["value"]) (fun _ _ _ _ _ _ us hl => match us, hl with | [_], _ => rfl), PySem.W.mg_of X G aFa⟩
  have FFm := fun_mk (st := sFam) lFm cFm kFm
  have dFm : Df K mg "_law_families" "_law_families" sFam ["error"] fFm _ := ⟨FFm, FFm.binds (ps := ["error"]) (fun _ _ _ _ _ _ us hl => match us, hl with | [_], _ => rfl), PySem.W.mg_of X G aFm⟩
  have FCl := fun_mk (st := sCls) lCl cCl kCl
  have dCl : Df K mg "_law_classes" "_law_classes" sCls ["error"] fCl _ := ⟨FCl, FCl.binds (ps := ["error"]) (fun _ _ _ _ _ _ us hl => match us, hl with | [_], _ => rfl), PySem.W.mg_of X G aCl⟩
  have FL := fun_mk (st := sLaw) lL cL kL
  have dL : Df K mg "law" "law" sLaw ["script"] fL _ := ⟨FL, FL.binds (ps := ["script"]) (fun _ _ _ _ _ _ us hl => match us, hl with | [_], _ => rfl), PySem.W.mg_of X G aL⟩
  have e := hfa.symm.trans (PySem.W.mg_of X G aL)
  cases e
  have B : Bl mg := ⟨PySem.W.mg_none_of X G zisinstance, PySem.W.mg_none_of X G zint, PySem.W.mg_none_of X G zbool, PySem.W.mg_none_of X G zlist, PySem.W.mg_none_of X G zrange, PySem.W.mg_none_of X G zlen, PySem.W.mg_none_of X G zmin, PySem.W.mg_none_of X G zmax, PySem.W.mg_none_of X G zsorted, PySem.W.mg_none_of X G zenumerate, PySem.W.mg_none_of X G zrepr, PySem.W.mg_none_of X G ztuple, PySem.W.mg_none_of X G zdivmod⟩
  have N : Nf mg T A F := ⟨PySem.W.mg_of X G gTableError, PySem.W.mg_of X G gAbsent, PySem.W.mg_of X G gFault, PySem.W.mg_none_of X G zValueError, PySem.W.mg_none_of X G zLookupError, PySem.W.mg_none_of X G zRuntimeError⟩
  have KN : Kin K [c0, c1, c2, c3, c4, c5, c6, c7, c8, c9, c10, c11, c12, c13, c14, c15, c16, c17, c18] T A F := kin_of kin rfl
  refine ⟨PySem.W.fnOf "law" "law" (defArgs sLaw) (defBody sLaw) (defScope sLaw) .none kVL dcL pmL anL cdL ctL, [], spLaw K, (fun _ z => nomatch z), (fun _ z => nomatch z), (fun _ z => nomatch z), fun s v => .of_eq rfl, fun H a ns hl hH hS => ⟨a, ns, rfl, hS, hl, fun _ => rfl⟩, fun base hb hg hT => ?_⟩
  have FX0 := fun_mk (st := sX0) lX0 cX0 kX0
  have bX0 := FX0.binds (ps := ["self", "reason"]) (fun _ _ _ _ _ _ us hl => match us, hl with | [_, _], _ => rfl)
  have E0 : XE l.prog w K mg base [c0, c1, c2, c3, c4, c5, c6, c7, c8, c9, c10, c11, c12, c13, c14, c15, c16, c17, c18] "BadKey" c0 "reason" 0 := ⟨PySem.W.mg_of X G gBadKey, (xc_of PySem.F.excBase_ValueError PySem.F.store_ValueError w0).1, jX0, (xc_of PySem.F.excBase_ValueError PySem.F.store_ValueError w0).2, rfl, ⟨mX0, _, aX0, iX0, bX0, (fun s a u => .of_eq rfl), Xo.ok_xinit FX0 scX0 rfl (by decide) (by decide)⟩⟩
  have FX1 := fun_mk (st := sX1) lX1 cX1 kX1
  have bX1 := FX1.binds (ps := ["self", "reason"]) (fun _ _ _ _ _ _ us hl => match us, hl with | [_, _], _ => rfl)
  have E1 : XE l.prog w K mg base [c0, c1, c2, c3, c4, c5, c6, c7, c8, c9, c10, c11, c12, c13, c14, c15, c16, c17, c18] "BadCode" c1 "reason" 1 := ⟨PySem.W.mg_of X G gBadCode, (xc_of PySem.F.excBase_ValueError PySem.F.store_ValueError w1).1, jX1, (xc_of PySem.F.excBase_ValueError PySem.F.store_ValueError w1).2, rfl, ⟨mX1, _, aX1, iX1, bX1, (fun s a u => .of_eq rfl), Xo.ok_xinit FX1 scX1 rfl (by decide) (by decide)⟩⟩
  have FX2 := fun_mk (st := sX2) lX2 cX2 kX2
  have bX2 := FX2.binds (ps := ["self", "reason"]) (fun _ _ _ _ _ _ us hl => match us, hl with | [_, _], _ => rfl)
  have E2 : XE l.prog w K mg base [c0, c1, c2, c3, c4, c5, c6, c7, c8, c9, c10, c11, c12, c13, c14, c15, c16, c17, c18] "BadSize" c2 "reason" 2 := ⟨PySem.W.mg_of X G gBadSize, (xc_of PySem.F.excBase_ValueError PySem.F.store_ValueError w2).1, jX2, (xc_of PySem.F.excBase_ValueError PySem.F.store_ValueError w2).2, rfl, ⟨mX2, _, aX2, iX2, bX2, (fun s a u => .of_eq rfl), Xo.ok_xinit FX2 scX2 rfl (by decide) (by decide)⟩⟩
  have FX3 := fun_mk (st := sX3) lX3 cX3 kX3
  have bX3 := FX3.binds (ps := ["self", "index"]) (fun _ _ _ _ _ _ us hl => match us, hl with | [_, _], _ => rfl)
  have E3 : XE l.prog w K mg base [c0, c1, c2, c3, c4, c5, c6, c7, c8, c9, c10, c11, c12, c13, c14, c15, c16, c17, c18] "BadStep" c3 "index" 3 := ⟨PySem.W.mg_of X G gBadStep, (xc_of PySem.F.excBase_ValueError PySem.F.store_ValueError w3).1, jX3, (xc_of PySem.F.excBase_ValueError PySem.F.store_ValueError w3).2, rfl, ⟨mX3, _, aX3, iX3, bX3, (fun s a u => .of_eq rfl), Xo.ok_xinit FX3 scX3 rfl (by decide) (by decide)⟩⟩
  have FX4 := fun_mk (st := sX4) lX4 cX4 kX4
  have bX4 := FX4.binds (ps := ["self", "index"]) (fun _ _ _ _ _ _ us hl => match us, hl with | [_, _], _ => rfl)
  have E4 : XE l.prog w K mg base [c0, c1, c2, c3, c4, c5, c6, c7, c8, c9, c10, c11, c12, c13, c14, c15, c16, c17, c18] "BadPicture" c4 "index" 4 := ⟨PySem.W.mg_of X G gBadPicture, (xc_of PySem.F.excBase_ValueError PySem.F.store_ValueError w4).1, jX4, (xc_of PySem.F.excBase_ValueError PySem.F.store_ValueError w4).2, rfl, ⟨mX4, _, aX4, iX4, bX4, (fun s a u => .of_eq rfl), Xo.ok_xinit FX4 scX4 rfl (by decide) (by decide)⟩⟩
  have FX5 := fun_mk (st := sX5) lX5 cX5 kX5
  have bX5 := FX5.binds (ps := ["self", "index"]) (fun _ _ _ _ _ _ us hl => match us, hl with | [_, _], _ => rfl)
  have E5 : XE l.prog w K mg base [c0, c1, c2, c3, c4, c5, c6, c7, c8, c9, c10, c11, c12, c13, c14, c15, c16, c17, c18] "BadPairs" c5 "index" 5 := ⟨PySem.W.mg_of X G gBadPairs, (xc_of PySem.F.excBase_ValueError PySem.F.store_ValueError w5).1, jX5, (xc_of PySem.F.excBase_ValueError PySem.F.store_ValueError w5).2, rfl, ⟨mX5, _, aX5, iX5, bX5, (fun s a u => .of_eq rfl), Xo.ok_xinit FX5 scX5 rfl (by decide) (by decide)⟩⟩
  have FX6 := fun_mk (st := sX6) lX6 cX6 kX6
  have bX6 := FX6.binds (ps := ["self", "reason"]) (fun _ _ _ _ _ _ us hl => match us, hl with | [_, _], _ => rfl)
  have E6 : XE l.prog w K mg base [c0, c1, c2, c3, c4, c5, c6, c7, c8, c9, c10, c11, c12, c13, c14, c15, c16, c17, c18] "BadView" c6 "reason" 6 := ⟨PySem.W.mg_of X G gBadView, (xc_of PySem.F.excBase_ValueError PySem.F.store_ValueError w6).1, jX6, (xc_of PySem.F.excBase_ValueError PySem.F.store_ValueError w6).2, rfl, ⟨mX6, _, aX6, iX6, bX6, (fun s a u => .of_eq rfl), Xo.ok_xinit FX6 scX6 rfl (by decide) (by decide)⟩⟩
  have FX7 := fun_mk (st := sX7) lX7 cX7 kX7
  have bX7 := FX7.binds (ps := ["self", "fault"]) (fun _ _ _ _ _ _ us hl => match us, hl with | [_, _], _ => rfl)
  have E7 : XE l.prog w K mg base [c0, c1, c2, c3, c4, c5, c6, c7, c8, c9, c10, c11, c12, c13, c14, c15, c16, c17, c18] "BadLayout" c7 "fault" 7 := ⟨PySem.W.mg_of X G gBadLayout, (xc_of PySem.F.excBase_ValueError PySem.F.store_ValueError w7).1, jX7, (xc_of PySem.F.excBase_ValueError PySem.F.store_ValueError w7).2, rfl, ⟨mX7, _, aX7, iX7, bX7, (fun s a u => .of_eq rfl), Xo.ok_xinit FX7 scX7 rfl (by decide) (by decide)⟩⟩
  have FX8 := fun_mk (st := sX8) lX8 cX8 kX8
  have bX8 := FX8.binds (ps := ["self", "key"]) (fun _ _ _ _ _ _ us hl => match us, hl with | [_, _], _ => rfl)
  have E8 : XE l.prog w K mg base [c0, c1, c2, c3, c4, c5, c6, c7, c8, c9, c10, c11, c12, c13, c14, c15, c16, c17, c18] "Missing" c8 "key" 8 := ⟨PySem.W.mg_of X G gMissing, (xc_of PySem.F.excBase_LookupError PySem.F.store_LookupError w8).1, jX8, (xc_of PySem.F.excBase_LookupError PySem.F.store_LookupError w8).2, rfl, ⟨mX8, _, aX8, iX8, bX8, (fun s a u => .of_eq rfl), Xo.ok_xinit FX8 scX8 rfl (by decide) (by decide)⟩⟩
  have FX9 := fun_mk (st := sX9) lX9 cX9 kX9
  have bX9 := FX9.binds (ps := ["self", "reason"]) (fun _ _ _ _ _ _ us hl => match us, hl with | [_, _], _ => rfl)
  have E9 : XE l.prog w K mg base [c0, c1, c2, c3, c4, c5, c6, c7, c8, c9, c10, c11, c12, c13, c14, c15, c16, c17, c18] "Empty" c9 "reason" 9 := ⟨PySem.W.mg_of X G gEmpty, (xc_of PySem.F.excBase_LookupError PySem.F.store_LookupError w9).1, jX9, (xc_of PySem.F.excBase_LookupError PySem.F.store_LookupError w9).2, rfl, ⟨mX9, _, aX9, iX9, bX9, (fun s a u => .of_eq rfl), Xo.ok_xinit FX9 scX9 rfl (by decide) (by decide)⟩⟩
  have FX10 := fun_mk (st := sX10) lX10 cX10 kX10
  have bX10 := FX10.binds (ps := ["self", "index"]) (fun _ _ _ _ _ _ us hl => match us, hl with | [_, _], _ => rfl)
  have E10 : XE l.prog w K mg base [c0, c1, c2, c3, c4, c5, c6, c7, c8, c9, c10, c11, c12, c13, c14, c15, c16, c17, c18] "NoEntry" c10 "index" 10 := ⟨PySem.W.mg_of X G gNoEntry, (xc_of PySem.F.excBase_LookupError PySem.F.store_LookupError w10).1, jX10, (xc_of PySem.F.excBase_LookupError PySem.F.store_LookupError w10).2, rfl, ⟨mX10, _, aX10, iX10, bX10, (fun s a u => .of_eq rfl), Xo.ok_xinit FX10 scX10 rfl (by decide) (by decide)⟩⟩
  have FX11 := fun_mk (st := sX11) lX11 cX11 kX11
  have bX11 := FX11.binds (ps := ["self", "label"]) (fun _ _ _ _ _ _ us hl => match us, hl with | [_, _], _ => rfl)
  have E11 : XE l.prog w K mg base [c0, c1, c2, c3, c4, c5, c6, c7, c8, c9, c10, c11, c12, c13, c14, c15, c16, c17, c18] "CodeFault" c11 "label" 11 := ⟨PySem.W.mg_of X G gCodeFault, (xc_of PySem.F.excBase_RuntimeError PySem.F.store_RuntimeError w11).1, jX11, (xc_of PySem.F.excBase_RuntimeError PySem.F.store_RuntimeError w11).2, rfl, ⟨mX11, _, aX11, iX11, bX11, (fun s a u => .of_eq rfl), Xo.ok_xinit FX11 scX11 rfl (by decide) (by decide)⟩⟩
  have FX12 := fun_mk (st := sX12) lX12 cX12 kX12
  have bX12 := FX12.binds (ps := ["self", "label"]) (fun _ _ _ _ _ _ us hl => match us, hl with | [_, _], _ => rfl)
  have E12 : XE l.prog w K mg base [c0, c1, c2, c3, c4, c5, c6, c7, c8, c9, c10, c11, c12, c13, c14, c15, c16, c17, c18] "MatchFault" c12 "label" 12 := ⟨PySem.W.mg_of X G gMatchFault, (xc_of PySem.F.excBase_RuntimeError PySem.F.store_RuntimeError w12).1, jX12, (xc_of PySem.F.excBase_RuntimeError PySem.F.store_RuntimeError w12).2, rfl, ⟨mX12, _, aX12, iX12, bX12, (fun s a u => .of_eq rfl), Xo.ok_xinit FX12 scX12 rfl (by decide) (by decide)⟩⟩
  have FX13 := fun_mk (st := sX13) lX13 cX13 kX13
  have bX13 := FX13.binds (ps := ["self", "limit"]) (fun _ _ _ _ _ _ us hl => match us, hl with | [_, _], _ => rfl)
  have E13 : XE l.prog w K mg base [c0, c1, c2, c3, c4, c5, c6, c7, c8, c9, c10, c11, c12, c13, c14, c15, c16, c17, c18] "Unsettled" c13 "limit" 13 := ⟨PySem.W.mg_of X G gUnsettled, (xc_of PySem.F.excBase_RuntimeError PySem.F.store_RuntimeError w13).1, jX13, (xc_of PySem.F.excBase_RuntimeError PySem.F.store_RuntimeError w13).2, rfl, ⟨mX13, _, aX13, iX13, bX13, (fun s a u => .of_eq rfl), Xo.ok_xinit FX13 scX13 rfl (by decide) (by decide)⟩⟩
  have FX14 := fun_mk (st := sX14) lX14 cX14 kX14
  have bX14 := FX14.binds (ps := ["self", "reason"]) (fun _ _ _ _ _ _ us hl => match us, hl with | [_, _], _ => rfl)
  have E14 : XE l.prog w K mg base [c0, c1, c2, c3, c4, c5, c6, c7, c8, c9, c10, c11, c12, c13, c14, c15, c16, c17, c18] "Locked" c14 "reason" 14 := ⟨PySem.W.mg_of X G gLocked, (xc_of PySem.F.excBase_RuntimeError PySem.F.store_RuntimeError w14).1, jX14, (xc_of PySem.F.excBase_RuntimeError PySem.F.store_RuntimeError w14).2, rfl, ⟨mX14, _, aX14, iX14, bX14, (fun s a u => .of_eq rfl), Xo.ok_xinit FX14 scX14 rfl (by decide) (by decide)⟩⟩
  have FX15 := fun_mk (st := sX15) lX15 cX15 kX15
  have bX15 := FX15.binds (ps := ["self", "reason"]) (fun _ _ _ _ _ _ us hl => match us, hl with | [_, _], _ => rfl)
  have E15 : XE l.prog w K mg base [c0, c1, c2, c3, c4, c5, c6, c7, c8, c9, c10, c11, c12, c13, c14, c15, c16, c17, c18] "NotHeld" c15 "reason" 15 := ⟨PySem.W.mg_of X G gNotHeld, (xc_of PySem.F.excBase_RuntimeError PySem.F.store_RuntimeError w15).1, jX15, (xc_of PySem.F.excBase_RuntimeError PySem.F.store_RuntimeError w15).2, rfl, ⟨mX15, _, aX15, iX15, bX15, (fun s a u => .of_eq rfl), Xo.ok_xinit FX15 scX15 rfl (by decide) (by decide)⟩⟩
  have FX16 := fun_mk (st := sX16) lX16 cX16 kX16
  have bX16 := FX16.binds (ps := ["self", "expected"]) (fun _ _ _ _ _ _ us hl => match us, hl with | [_, _], _ => rfl)
  have E16 : XE l.prog w K mg base [c0, c1, c2, c3, c4, c5, c6, c7, c8, c9, c10, c11, c12, c13, c14, c15, c16, c17, c18] "ChangedSize" c16 "expected" 16 := ⟨PySem.W.mg_of X G gChangedSize, (xc_of PySem.F.excBase_RuntimeError PySem.F.store_RuntimeError w16).1, jX16, (xc_of PySem.F.excBase_RuntimeError PySem.F.store_RuntimeError w16).2, rfl, ⟨mX16, _, aX16, iX16, bX16, (fun s a u => .of_eq rfl), Xo.ok_xinit FX16 scX16 rfl (by decide) (by decide)⟩⟩
  have FX17 := fun_mk (st := sX17) lX17 cX17 kX17
  have bX17 := FX17.binds (ps := ["self", "reason"]) (fun _ _ _ _ _ _ us hl => match us, hl with | [_, _], _ => rfl)
  have E17 : XE l.prog w K mg base [c0, c1, c2, c3, c4, c5, c6, c7, c8, c9, c10, c11, c12, c13, c14, c15, c16, c17, c18] "ChangedKeys" c17 "reason" 17 := ⟨PySem.W.mg_of X G gChangedKeys, (xc_of PySem.F.excBase_RuntimeError PySem.F.store_RuntimeError w17).1, jX17, (xc_of PySem.F.excBase_RuntimeError PySem.F.store_RuntimeError w17).2, rfl, ⟨mX17, _, aX17, iX17, bX17, (fun s a u => .of_eq rfl), Xo.ok_xinit FX17 scX17 rfl (by decide) (by decide)⟩⟩
  have FX18 := fun_mk (st := sX18) lX18 cX18 kX18
  have bX18 := FX18.binds (ps := ["self", "limit"]) (fun _ _ _ _ _ _ us hl => match us, hl with | [_, _], _ => rfl)
  have E18 : XE l.prog w K mg base [c0, c1, c2, c3, c4, c5, c6, c7, c8, c9, c10, c11, c12, c13, c14, c15, c16, c17, c18] "TooLarge" c18 "limit" 18 := ⟨PySem.W.mg_of X G gTooLarge, (xc_of PySem.F.excBase_RuntimeError PySem.F.store_RuntimeError w18).1, jX18, (xc_of PySem.F.excBase_RuntimeError PySem.F.store_RuntimeError w18).2, rfl, ⟨mX18, _, aX18, iX18, bX18, (fun s a u => .of_eq rfl), Xo.ok_xinit FX18 scX18 rfl (by decide) (by decide)⟩⟩
  have gMx := ok_mixed (P := l.prog) (w := w) (base := base) dMx
  have gDr := ok_draw (P := l.prog) (w := w) (base := base) dDr
  have gDg := ok_digit dDg B dMx gMx
  have gIn := ok_inp dIn E0 E1 E2 E3 E4 E5 E6 E7
  have gAb := ok_abs dAb E8 E9 E10
  have gFa := ok_fau dFa E11 E12 E13 E14 E15 E16 E17 E18
  have gFm := ok_fam (P := l.prog) (w := w) (base := base) dFm B N KN
  have gCl := ok_cls dCl B KN E0 E1 E2 E3 E4 E5 E6 E7 E8 E9 E10 E11 E12 E13 E14 E15 E16 E17 E18
  exact ok_law dL B (PySem.W.mg_none_of X G zsum) KN dDr gDr dDg gDg dIn gIn dAb gAb dFa gFa dFm gFm dCl gCl

theorem walk {l : PySem.W.OpenLaw} {q : Program} {loose : List Str} {XP : (Str → Option Value) → Heap → Prop} {YP : World → Heap → Prop} {d : DefRec} {K : Params → PySem.W.Frag} (hn : l.most = some 63) (hdf : d.params.defaults = [])
    (hY : ∀ (w : World) (h : Heap), YP w h → (K w.params).In h)
    (F : ∀ (w : World) (mg : Str → Option Value) (fa : Addr) (h : Heap), YP w h → (K w.params).In h → h.Ns mainGlobals mg → mg d.name = some (.ref fa) → Gd.LawAtG l w (K w.params) 4 63 "script" mg fa h) :
    PySem.W.WalkO q loose XP YP l.row.toRowW d [] (fun f vs => PySem.call f vs) := Gd.walk_ofG hn (by decide) hdf ⟨rfl, by decide, by decide⟩ hY F
end K04
open PySem PySem.W PyProof.Rows
set_option maxRecDepth 100000 in
set_option maxHeartbeats 0 in
theorem PySem.Challenge.cw_entryhall_k04_error_families_holds : PySem.Challenge.rw_entryhall_k04_error_families.Holds := by
  w_on; o_law; k_head; (case hw => w_witness2)
  k_fill
  refine K04.walk (l := PySem.Challenge.rw_entryhall_k04_error_families) rfl rfl (fun w h Y => PySem.W.kIn_of Y) ?F
  case F =>
    intro w mg fa h _ KX G hmg
    refine' K04.all_mk KX G hmg ?aMx ?lMx ?cMx ?kMx ?aDr ?lDr ?cDr ?kDr ?aDg ?lDg ?cDg ?kDg ?aIn ?lIn ?cIn ?kIn ?aAb ?lAb ?cAb ?kAb ?aFa ?lFa ?cFa ?kFa ?aFm ?lFm ?cFm ?kFm ?aCl ?lCl ?cCl ?kCl ?aL ?lL ?cL ?kL ?gTableError ?gAbsent ?gFault ?gBadKey ?w0 ?aX0 ?iX0 ?jX0 ?lX0 ?cX0 ?kX0 ?gBadCode ?w1 ?aX1 ?iX1 ?jX1 ?lX1 ?cX1 ?kX1 ?gBadSize ?w2 ?aX2 ?iX2 ?jX2 ?lX2 ?cX2 ?kX2 ?gBadStep ?w3 ?aX3 ?iX3 ?jX3 ?lX3 ?cX3 ?kX3 ?gBadPicture ?w4 ?aX4 ?iX4 ?jX4 ?lX4 ?cX4 ?kX4 ?gBadPairs ?w5 ?aX5 ?iX5 ?jX5 ?lX5 ?cX5 ?kX5 ?gBadView ?w6 ?aX6 ?iX6 ?jX6 ?lX6 ?cX6 ?kX6 ?gBadLayout ?w7 ?aX7 ?iX7 ?jX7 ?lX7 ?cX7 ?kX7 ?gMissing ?w8 ?aX8 ?iX8 ?jX8 ?lX8 ?cX8 ?kX8 ?gEmpty ?w9 ?aX9 ?iX9 ?jX9 ?lX9 ?cX9 ?kX9 ?gNoEntry ?w10 ?aX10 ?iX10 ?jX10 ?lX10 ?cX10 ?kX10 ?gCodeFault ?w11 ?aX11 ?iX11 ?jX11 ?lX11 ?cX11 ?kX11 ?gMatchFault ?w12 ?aX12 ?iX12 ?jX12 ?lX12 ?cX12 ?kX12 ?gUnsettled ?w13 ?aX13 ?iX13 ?jX13 ?lX13 ?cX13 ?kX13 ?gLocked ?w14 ?aX14 ?iX14 ?jX14 ?lX14 ?cX14 ?kX14 ?gNotHeld ?w15 ?aX15 ?iX15 ?jX15 ?lX15 ?cX15 ?kX15 ?gChangedSize ?w16 ?aX16 ?iX16 ?jX16 ?lX16 ?cX16 ?kX16 ?gChangedKeys ?w17 ?aX17 ?iX17 ?jX17 ?lX17 ?cX17 ?kX17 ?gTooLarge ?w18 ?aX18 ?iX18 ?jX18 ?lX18 ?cX18 ?kX18 ?kin ?zisinstance ?zint ?zbool ?zlist ?zrange ?zlen ?zmin ?zmax ?zsorted ?zenumerate ?zrepr ?ztuple ?zdivmod ?zsum ?zValueError ?zLookupError ?zRuntimeError
    (case aMx => k_is)
    (case lMx => k_is)
    (case cMx => k_is)
    (case kMx => k_is)
    (case aDr => k_is)
    (case lDr => k_is)
    (case cDr => k_is)
    (case kDr => k_is)
    (case aDg => k_is)
    (case lDg => k_is)
    (case cDg => k_is)
    (case kDg => k_is)
    (case aIn => k_is)
    (case lIn => k_is)
    (case cIn => k_is)
    (case kIn => k_is)
    (case aAb => k_is)
    (case lAb => k_is)
    (case cAb => k_is)
    (case kAb => k_is)
    (case aFa => k_is)
    (case lFa => k_is)
    (case cFa => k_is)
    (case kFa => k_is)
    (case aFm => k_is)
    (case lFm => k_is)
    (case cFm => k_is)
    (case kFm => k_is)
    (case aCl => k_is)
    (case lCl => k_is)
    (case cCl => k_is)
    (case kCl => k_is)
    (case aL => k_is)
    (case lL => k_is)
    (case cL => k_is)
    (case kL => k_is)
    (case gTableError => k_is)
    (case gAbsent => k_is)
    (case gFault => k_is)
    (case gBadKey => k_is)
    (case w0 => kernel_rfl)
    (case aX0 => k_is)
    (case iX0 => k_is)
    (case jX0 => k_is)
    (case lX0 => k_is)
    (case cX0 => k_is)
    (case kX0 => k_is)
    (case gBadCode => k_is)
    (case w1 => kernel_rfl)
    (case aX1 => k_is)
    (case iX1 => k_is)
    (case jX1 => k_is)
    (case lX1 => k_is)
    (case cX1 => k_is)
    (case kX1 => k_is)
    (case gBadSize => k_is)
    (case w2 => kernel_rfl)
    (case aX2 => k_is)
    (case iX2 => k_is)
    (case jX2 => k_is)
    (case lX2 => k_is)
    (case cX2 => k_is)
    (case kX2 => k_is)
    (case gBadStep => k_is)
    (case w3 => kernel_rfl)
    (case aX3 => k_is)
    (case iX3 => k_is)
    (case jX3 => k_is)
    (case lX3 => k_is)
    (case cX3 => k_is)
    (case kX3 => k_is)
    (case gBadPicture => k_is)
    (case w4 => kernel_rfl)
    (case aX4 => k_is)
    (case iX4 => k_is)
    (case jX4 => k_is)
    (case lX4 => k_is)
    (case cX4 => k_is)
    (case kX4 => k_is)
    (case gBadPairs => k_is)
    (case w5 => kernel_rfl)
    (case aX5 => k_is)
    (case iX5 => k_is)
    (case jX5 => k_is)
    (case lX5 => k_is)
    (case cX5 => k_is)
    (case kX5 => k_is)
    (case gBadView => k_is)
    (case w6 => kernel_rfl)
    (case aX6 => k_is)
    (case iX6 => k_is)
    (case jX6 => k_is)
    (case lX6 => k_is)
    (case cX6 => k_is)
    (case kX6 => k_is)
    (case gBadLayout => k_is)
    (case w7 => kernel_rfl)
    (case aX7 => k_is)
    (case iX7 => k_is)
    (case jX7 => k_is)
    (case lX7 => k_is)
    (case cX7 => k_is)
    (case kX7 => k_is)
    (case gMissing => k_is)
    (case w8 => kernel_rfl)
    (case aX8 => k_is)
    (case iX8 => k_is)
    (case jX8 => k_is)
    (case lX8 => k_is)
    (case cX8 => k_is)
    (case kX8 => k_is)
    (case gEmpty => k_is)
    (case w9 => kernel_rfl)
    (case aX9 => k_is)
    (case iX9 => k_is)
    (case jX9 => k_is)
    (case lX9 => k_is)
    (case cX9 => k_is)
    (case kX9 => k_is)
    (case gNoEntry => k_is)
    (case w10 => kernel_rfl)
    (case aX10 => k_is)
    (case iX10 => k_is)
    (case jX10 => k_is)
    (case lX10 => k_is)
    (case cX10 => k_is)
    (case kX10 => k_is)
    (case gCodeFault => k_is)
    (case w11 => kernel_rfl)
    (case aX11 => k_is)
    (case iX11 => k_is)
    (case jX11 => k_is)
    (case lX11 => k_is)
    (case cX11 => k_is)
    (case kX11 => k_is)
    (case gMatchFault => k_is)
    (case w12 => kernel_rfl)
    (case aX12 => k_is)
    (case iX12 => k_is)
    (case jX12 => k_is)
    (case lX12 => k_is)
    (case cX12 => k_is)
    (case kX12 => k_is)
    (case gUnsettled => k_is)
    (case w13 => kernel_rfl)
    (case aX13 => k_is)
    (case iX13 => k_is)
    (case jX13 => k_is)
    (case lX13 => k_is)
    (case cX13 => k_is)
    (case kX13 => k_is)
    (case gLocked => k_is)
    (case w14 => kernel_rfl)
    (case aX14 => k_is)
    (case iX14 => k_is)
    (case jX14 => k_is)
    (case lX14 => k_is)
    (case cX14 => k_is)
    (case kX14 => k_is)
    (case gNotHeld => k_is)
    (case w15 => kernel_rfl)
    (case aX15 => k_is)
    (case iX15 => k_is)
    (case jX15 => k_is)
    (case lX15 => k_is)
    (case cX15 => k_is)
    (case kX15 => k_is)
    (case gChangedSize => k_is)
    (case w16 => kernel_rfl)
    (case aX16 => k_is)
    (case iX16 => k_is)
    (case jX16 => k_is)
    (case lX16 => k_is)
    (case cX16 => k_is)
    (case kX16 => k_is)
    (case gChangedKeys => k_is)
    (case w17 => kernel_rfl)
    (case aX17 => k_is)
    (case iX17 => k_is)
    (case jX17 => k_is)
    (case lX17 => k_is)
    (case cX17 => k_is)
    (case kX17 => k_is)
    (case gTooLarge => k_is)
    (case w18 => kernel_rfl)
    (case aX18 => k_is)
    (case iX18 => k_is)
    (case jX18 => k_is)
    (case lX18 => k_is)
    (case cX18 => k_is)
    (case kX18 => k_is)
    (case kin => kernel_rfl)
    (case zisinstance => k_is)
    (case zint => k_is)
    (case zbool => k_is)
    (case zlist => k_is)
    (case zrange => k_is)
    (case zlen => k_is)
    (case zmin => k_is)
    (case zmax => k_is)
    (case zsorted => k_is)
    (case zenumerate => k_is)
    (case zrepr => k_is)
    (case ztuple => k_is)
    (case zdivmod => k_is)
    (case zsum => k_is)
    (case zValueError => k_is)
    (case zLookupError => k_is)
    (case zRuntimeError => k_is)
#print axioms PySem.Challenge.cw_entryhall_k04_error_families_holds
