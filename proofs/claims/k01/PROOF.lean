import PyProof.Rows.All
import Wide.All
import OpenK.AllK
import Wide.FinOn
import PyProof.GenQ
import HandS.ForMost
import HandS.GenList
import HandS.ExcInit
import HandS.ExcIs
import HandS.ExcField
import HandS.Property
import KE.KExcInit
import HandS.IsInst
import HandS.Lambda
import KE.KDflt
import HandS.Deep
import HandS.SetFor
import HandS.EndTab
import PyProof.ReprRoads
import HandS.Style
import HandS.Flow
import HandS.Wide
import HandS.Small
import HandS.More
import HandS.Codes
import HandS.CallLocal
import HandS.ListEq
import HandS.ClsMeth
import HandS.Comp
import HandS.WordsExc
import PyProof.TupleOps
import HandS.Walk
import HandS.Iter
import KE.GoesMore
import KE.GoesEnum
import KE.KIntText
import PyProof.Rows.StrBin
import HandS.MakeKwOnly
import KE.KNestM
import KE.KExcLine
import KE.RegKIsAll
import PySem.Challenge.RW_entryhall_k01_plain_keys_and_codes
set_option Elab.async false
set_option linter.all false
set_option maxRecDepth 100000
set_option maxHeartbeats 1000000
/-! Fk: a run that wakes none of the generators that slept when it began leaves them as they were. Those that sleep are replaced by ones that look alike and cannot be woken;
a run over the replaced ones is a run over the real ones. -/
namespace Fk
open PySem
open Sem (wp)

/-- looks alike, cannot be woken -/
def fk : GenState → GenState
  | .suspended _ l c p fs cl => .suspended (fun _ => .unsupported "") l c p fs cl
  | x => x
theorem fk_seen (x : GenState) : (fk x).seen = x.seen := by cases x <;> rfl
theorem fk_bare (x : GenState) : (fk x).bare = x.bare := by cases x <;> rfl
def isSusp : GenState → Bool
  | .suspended .. => true
  | _ => false
def plainG : GenState → Prop
  | .suspended _ _ _ _ fs _ => splitAtGen fs = none
  | _ => True
def plainE : End → Prop
  | .susp _ _ _ _ _ _ fs => splitAtGen fs = none
  | .ret _ => True
theorem plainG_end {e : End} (h : plainE e) : plainG e.genState := by cases e <;> first | exact h | trivial
/-- F: which of them are replaced, by their places: what they are in truth. a: the replaced ones; b: the real ones -/
structure Rel (F : Nat → Option GenState) (a b : Array GenState) : Prop where
  size : b.size = a.size
  fake : ∀ (i : Nat) x, F i = some x → isSusp x = true ∧ a[i]? = some (fk x) ∧ b[i]? = some x
  same : ∀ (i : Nat), F i = none → b[i]? = a[i]?
  plain : ∀ (i : Nat) x, F i = none → a[i]? = some x → plainG x
variable {F : Nat → Option GenState} {a b : Array GenState}
theorem Rel.push (h : Rel F a b) (c : Code) : Rel F (a.push (.fresh c)) (b.push (.fresh c)) := by
  refine ⟨by simp [h.size], fun i x e => ?_, fun i e => ?_, fun i x e hx => ?_⟩
  · obtain ⟨q, k, l⟩ := h.fake i x e
    have l1 : i < a.size := (Array.getElem?_eq_some_iff.mp k).1
    have l2 : i < b.size := (Array.getElem?_eq_some_iff.mp l).1
    exact ⟨q, by rw [Array.getElem?_push, if_neg (by omega)]; exact k, by rw [Array.getElem?_push, if_neg (by omega)]; exact l⟩
  · rw [Array.getElem?_push, Array.getElem?_push, h.size, h.same i e]
  · rw [Array.getElem?_push] at hx
    split at hx
    · cases hx; trivial
    · exact h.plain i x e hx
theorem Rel.set (h : Rel F a b) {g : Nat} {x : GenState} (hF : F g = none) (hx : plainG x) : Rel F (a.setIfInBounds g x) (b.setIfInBounds g x) := by
  refine ⟨by simp [h.size], fun i y e => ?_, fun i e => ?_, fun i y e hy => ?_⟩
  · obtain ⟨q, k, l⟩ := h.fake i y e
    have ne : g ≠ i := fun z => by rw [z, e] at hF; cases hF
    exact ⟨q, by rw [Array.getElem?_setIfInBounds_ne ne]; exact k, by rw [Array.getElem?_setIfInBounds_ne ne]; exact l⟩
  · rw [Array.getElem?_setIfInBounds, Array.getElem?_setIfInBounds, h.size, h.same i e]
  · rw [Array.getElem?_setIfInBounds] at hy
    split at hy
    · split at hy
      · cases hy; exact hx
      · cases hy
    · exact h.plain i y e hy
theorem plain_app {a b : List Frame} (ha : splitAtGen a = none) (hb : splitAtGen b = none) : splitAtGen (a ++ b) = none := by
  induction a with
  | nil => exact hb
  | cons f t ih =>
    cases f with
    | ret k h g l c p kp =>
      have e : (splitAtGen t).map (fun x => (Frame.ret k h g l c p kp :: x.1, x.2.1, x.2.2)) = none := ha
      have e' : splitAtGen t = none := by
        cases q : splitAtGen t with
        | none => rfl
        | some z => rw [q] at e; cases e
      show (splitAtGen (t ++ b)).map (fun x => (Frame.ret k h g l c p kp :: x.1, x.2.1, x.2.2)) = none
      rw [ih e']; rfl
    | gen g k l c p => exact absurd (show some _ = none from ha) (fun z => nomatch z)
theorem plain_tail {k h g l c p kp} {fs : List Frame} (e : splitAtGen (.ret k h g l c p kp :: fs) = none) : splitAtGen fs = none := by
  have e : (splitAtGen fs).map (fun x => (Frame.ret k h g l c p kp :: x.1, x.2.1, x.2.2)) = none := e
  cases q : splitAtGen fs with
  | none => rfl
  | some z => rw [q] at e; cases e
variable {M : Model}
theorem no_unsup {Γ : Ctx} {p : Pos} {w : String} {fs : List Frame} {s s' : Shared} {e : End} (h : Runs M Γ p (.unsupported w) fs s e s') : False := by
  generalize ht : (Sem.unsupported w : Sem PySem.Fin) = t at h
  induction h <;> first | (cases ht; done) | (rename_i ih _; exact ih ht) | (rename_i ih _ _; exact ih ht) | (rename_i ih; exact ih ht)
/-- with other generators -/
abbrev gw (s : Shared) (G : Array GenState) : Shared := { s with gens := G }
/-- the run over the real ones -/
theorem runs_fk {Γ : Ctx} {p : Pos} {t : Sem PySem.Fin} {fs : List Frame} {s s' : Shared} {e : End} (h : Runs M Γ p t fs s e s') : splitAtGen fs = none → ∀ G, Rel F s.gens G →
    ∃ G', Runs M Γ p t fs (gw s G) e (gw s' G') ∧ Rel F s'.gens G' ∧ plainE e := by
  induction h with
  | done => intro _ G R; exact ⟨G, .done, R, trivial⟩
  | raise => intro _ G R; exact ⟨G, .raise, R, trivial⟩
  | again hq _ ih => intro hf G R; obtain ⟨r', h1, h2, h3⟩ := ih hf G R; exact ⟨r', .again hq h1, h2, h3⟩
  | rule _ ih => intro hf G R; obtain ⟨r', h1, h2, h3⟩ := ih hf G R; exact ⟨r', .rule h1, h2, h3⟩
  | «at» _ ih => intro hf G R; obtain ⟨r', h1, h2, h3⟩ := ih hf G R; exact ⟨r', .at h1, h2, h3⟩
  | load ho _ ih => intro hf G R; obtain ⟨r', h1, h2, h3⟩ := ih hf G R; exact ⟨r', .load ho h1, h2, h3⟩
  | update ha _ ih => intro hf G R; obtain ⟨r', h1, h2, h3⟩ := ih hf G R; exact ⟨r', .update ha h1, h2, h3⟩
  | loadIfAlive _ ih => intro hf G R; obtain ⟨r', h1, h2, h3⟩ := ih hf G R; exact ⟨r', .loadIfAlive h1, h2, h3⟩
  | point _ ih => intro hf G R; obtain ⟨r', h1, h2, h3⟩ := ih hf G R; exact ⟨r', .point h1, h2, h3⟩
  | alloc _ ih => intro hf G R; obtain ⟨r', h1, h2, h3⟩ := ih hf G R; exact ⟨r', .alloc h1, h2, h3⟩
  | fresh _ ih => intro hf G R; obtain ⟨r', h1, h2, h3⟩ := ih hf G R; exact ⟨r', .fresh h1, h2, h3⟩
  | ask _ ih => intro hf G R; obtain ⟨r', h1, h2, h3⟩ := ih hf G R; exact ⟨r', .ask h1, h2, h3⟩
  | choose hn _ ih => intro hf G R; obtain ⟨r', h1, h2, h3⟩ := ih hf G R; exact ⟨r', .choose hn h1, h2, h3⟩
  | os _ ih => intro hf G R; obtain ⟨r', h1, h2, h3⟩ := ih hf G R; exact ⟨r', .os h1, h2, h3⟩
  | handled _ ih => intro hf G R; obtain ⟨r', h1, h2, h3⟩ := ih hf G R; exact ⟨r', .handled h1, h2, h3⟩
  | @genState g st Γ p k s e s' hg hr ih =>
    intro hf G R
    obtain ⟨r', h1, h2, h3⟩ := ih hf G R
    cases q : F g with
    | none => exact ⟨r', .genState (by rw [← R.same g q] at hg; exact hg) h1, h2, h3⟩
    | some x =>
      obtain ⟨_, k1, k2⟩ := R.fake g x q
      rw [k1] at hg
      cases hg
      rw [fk_seen] at h1
      exact ⟨r', .genState k2 h1, h2, h3⟩
  | stack _ ih => intro hf G R; obtain ⟨r', h1, h2, h3⟩ := ih hf G R; exact ⟨r', .stack h1, h2, h3⟩
  | thread _ ih => intro hf G R; obtain ⟨r', h1, h2, h3⟩ := ih hf G R; exact ⟨r', .thread h1, h2, h3⟩
  | @newGen Γ p k s e s' c hr ih =>
    intro hf G R
    obtain ⟨r', h1, h2, h3⟩ := ih hf (G.push (.fresh c)) (R.push c)
    refine ⟨r', .newGen ?_, h2, h3⟩
    have := R.size
    rw [show (gw s G).gens.size = s.gens.size from R.size]
    exact h1
  | call _ _ ih1 ih2 =>
    intro hf G R
    obtain ⟨r1, h1, h2, _⟩ := ih1 rfl G R
    obtain ⟨r2, k1, k2, k3⟩ := ih2 hf r1 h2
    exact ⟨r2, .call h1 k1, k2, k3⟩
  | callSusp _ ih =>
    intro hf G R
    obtain ⟨r1, h1, h2, h3⟩ := ih rfl G R
    exact ⟨r1, .callSusp h1, h2, plain_app h3 rfl⟩
  | yield => intro hf G R; exact ⟨G, .yield, R, rfl⟩
  | @resumeFresh Γ p g l k s c e₁ s₁ e s' hg _ hq _ ih1 ih2 =>
    intro hf G R
    cases q : F g with
    | some x =>
      obtain ⟨z, k1, k2⟩ := R.fake g x q
      rw [k1] at hg
      cases x <;> first | (cases z; done) | (cases hg; done)
    | none =>
      obtain ⟨r1, h1, h2, h3⟩ := ih1 rfl (G.setIfInBounds g .running) (R.set q trivial)
      obtain ⟨r2, j1, j2, j3⟩ := ih2 hf (r1.setIfInBounds g e₁.genState) (h2.set q (plainG_end h3))
      exact ⟨r2, .resumeFresh (by rw [← R.same g q] at hg; exact hg) h1 hq j1, j2, j3⟩
  | @resumeSuspended Γ p g rr l k s k₀ l₀ c₀ p₀ fs cl e₁ s₁ e s' hg hr hq _ ih1 ih2 =>
    intro hf G R
    cases q : F g with
    | some x =>
      obtain ⟨z, k1, k2⟩ := R.fake g x q
      rw [k1] at hg
      cases x with
      | suspended a1 a2 a3 a4 a5 a6 =>
        cases hg
        exact (no_unsup hr).elim
      | _ => cases z
    | none =>
      have pl : splitAtGen fs = none := R.plain g _ q hg
      obtain ⟨r1, h1, h2, h3⟩ := ih1 pl (G.setIfInBounds g .running) (R.set q trivial)
      obtain ⟨r2, j1, j2, j3⟩ := ih2 hf (r1.setIfInBounds g e₁.genState) (h2.set q (plainG_end h3))
      exact ⟨r2, .resumeSuspended (by rw [← R.same g q] at hg; exact hg) h1 hq j1, j2, j3⟩
  | @resumeJustStarted g v Γ p k s e s' l c hg hv _ ih =>
    intro hf G R
    cases q : F g with
    | some x =>
      obtain ⟨z, k1, k2⟩ := R.fake g x q
      rw [k1] at hg
      cases x <;> first | (cases z; done) | (cases hg; done)
    | none =>
      obtain ⟨r2, j1, j2, j3⟩ := ih hf G R
      exact ⟨r2, .resumeJustStarted (by rw [← R.same g q] at hg; exact hg) hv j1, j2, j3⟩
  | @resumeThrowFresh g Γ p k e s' x l s c hg _ ih =>
    intro hf G R
    cases q : F g with
    | some x =>
      obtain ⟨z, k1, k2⟩ := R.fake g x q
      rw [k1] at hg
      cases x <;> first | (cases z; done) | (cases hg; done)
    | none =>
      obtain ⟨r2, j1, j2, j3⟩ := ih hf (G.setIfInBounds g .finished) (R.set q trivial)
      exact ⟨r2, .resumeThrowFresh (by rw [← R.same g q] at hg; exact hg) j1, j2, j3⟩
  | @resumeRunning g Γ p k s e s' r l hg _ ih =>
    intro hf G R
    cases q : F g with
    | some x =>
      obtain ⟨z, k1, k2⟩ := R.fake g x q
      rw [k1] at hg
      cases x <;> first | (cases z; done) | (cases hg; done)
    | none =>
      obtain ⟨r2, j1, j2, j3⟩ := ih hf G R
      exact ⟨r2, .resumeRunning (by rw [← R.same g q] at hg; exact hg) j1, j2, j3⟩
  | @resumeFinished g Γ p k s e s' r l hg _ ih =>
    intro hf G R
    cases q : F g with
    | some x =>
      obtain ⟨z, k1, k2⟩ := R.fake g x q
      rw [k1] at hg
      cases x <;> first | (cases z; done) | (cases hg; done)
    | none =>
      obtain ⟨r2, j1, j2, j3⟩ := ih hf G R
      exact ⟨r2, .resumeFinished (by rw [← R.same g q] at hg; exact hg) j1, j2, j3⟩
  | segRet _ _ ih1 ih2 =>
    intro hf G R
    obtain ⟨r1, h1, h2, _⟩ := ih1 rfl G R
    obtain ⟨r2, j1, j2, j3⟩ := ih2 (plain_tail hf) r1 h2
    exact ⟨r2, .segRet h1 j1, j2, j3⟩
  | segGen _ _ _ _ => intro hf; exact absurd (show some _ = none from hf) (fun z => nomatch z)
  | segSuspOut hs _ ih =>
    intro hf G R
    obtain ⟨r1, h1, h2, h3⟩ := ih rfl G R
    exact ⟨r1, .segSuspOut hs h1, h2, plain_app h3 hs⟩
  | segSuspGen hs _ _ _ _ _ => intro hf; rw [hf] at hs; cases hs

theorem returns_fk {Γ : Ctx} {p : Pos} {s s' : Shared} {r : Result} (h : Returns M Γ p s r s') {G : Array GenState} (R : Rel F s.gens G) : ∃ G', Returns M Γ p (gw s G) r (gw s' G') ∧ Rel F s'.gens G' := by
  obtain ⟨G', h1, h2, _⟩ := runs_fk h rfl G R
  exact ⟨G', h1, h2⟩
theorem wakes_fk {Γ : Ctx} {p : Pos} {g : Nat} {r : Resume} {s s' : Shared} {res : GenResult} (h : Wakes M Γ p g r s res s') {G : Array GenState} (R : Rel F s.gens G) : ∃ G', Wakes M Γ p g r (gw s G) res (gw s' G') ∧ Rel F s'.gens G' := by
  cases q : F g with
  | some x =>
    obtain ⟨z, k1, k2⟩ := R.fake g x q
    unfold Wakes at h
    rw [k1] at h
    cases x with
    | suspended a1 a2 a3 a4 a5 a6 =>
      obtain ⟨e₁, s₁, hr, _⟩ := h
      exact (no_unsup hr).elim
    | _ => cases z
  | none =>
    have hs := R.same g q
    unfold Wakes at h ⊢
    rw [show (gw s G).gens[g]? = s.gens[g]? from hs]
    cases hg : s.gens[g]? with
    | none => rw [hg] at h; exact h.elim
    | some gs =>
      rw [hg] at h
      cases gs with
      | fresh c =>
        cases r with
        | send v =>
          by_cases hv : v = Value.none
          · subst hv
            obtain ⟨e₁, s₁, hr, hq, hres, hs'⟩ := h
            obtain ⟨G1, h1, h2, h3⟩ := runs_fk hr rfl (G.setIfInBounds g .running) (R.set q trivial)
            subst hs'
            exact ⟨G1.setIfInBounds g e₁.genState, ⟨e₁, _, h1, hq, hres, rfl⟩, h2.set q (plainG_end h3)⟩
          · cases v <;> first | exact absurd rfl hv | (obtain ⟨h1, h2⟩ := h; subst h2; exact ⟨G, ⟨h1, rfl⟩, R⟩)
        | throw x =>
          obtain ⟨h1, h2⟩ := h
          subst h2
          exact ⟨G.setIfInBounds g .finished, ⟨h1, rfl⟩, R.set q trivial⟩
      | suspended k₀ l₀ c₀ p₀ fs cl =>
        obtain ⟨e₁, s₁, hr, hq, hres, hs'⟩ := h
        obtain ⟨G1, h1, h2, h3⟩ := runs_fk hr (R.plain g _ q hg) (G.setIfInBounds g .running) (R.set q trivial)
        subst hs'
        exact ⟨G1.setIfInBounds g e₁.genState, ⟨e₁, _, h1, hq, hres, rfl⟩, h2.set q (plainG_end h3)⟩
      | running => obtain ⟨h1, h2⟩ := h; subst h2; exact ⟨G, ⟨h1, rfl⟩, R⟩
      | finished => obtain ⟨h1, h2⟩ := h; subst h2; exact ⟨G, ⟨h1, rfl⟩, R⟩
/-- what holds over the replaced ones holds over the real ones -/
theorem wp_fk {α : Type} (F : Nat → Option GenState) (M : Model) (Γ : Ctx) (t : Sem α) : ∀ (Q : α → Pos → Shared → Prop) (E : Value → Pos → Shared → Prop) (p : Pos) (s : Shared) (G : Array GenState), Rel F s.gens G → wp M Γ t Q E p s →
    wp M Γ t (fun a p' s' => ∃ G0, Rel F G0 s'.gens ∧ Q a p' (gw s' G0)) (fun e p' s' => ∃ G0, Rel F G0 s'.gens ∧ E e p' (gw s' G0)) p (gw s G) := by
  induction t with
  | pure a => intro Q E p s G R h; exact ⟨s.gens, R, h⟩
  | raise e => intro Q E p s G R h; exact ⟨s.gens, R, h⟩
  | unsupported _ => intro Q E p s G _ h; exact h
  | finish _ => intro Q E p s G _ h; exact h
  | rule _ k ih => intro Q E p s G R h; exact ih () Q E p s G R h
  | «at» p' k ih => intro Q E p s G R h; exact ih () Q E p' s G R h
  | load a _ k ih => intro Q E p s G R h; obtain ⟨o, ho, h⟩ := h; exact ⟨o, ho, ih o Q E p s G R h⟩
  | update a _ f k ih => intro Q E p s G R h; exact ⟨h.1, ih () Q E p { s with heap := s.heap.update a f } G R h.2⟩
  | loadIfAlive a k ih => intro Q E p s G R h; exact ih _ Q E p s G R h
  | point _ k ih => intro Q E p s G R h; exact ih () Q E p s G R h
  | register _ _ => intro Q E p s G _ h; exact h
  | alloc o k ih => intro Q E p s G R h; exact ih _ Q E p { s with heap := s.heap.push o } G R h
  | fresh k ih => intro Q E p s G R h; exact ih _ Q E p { s with toks := s.toks + 1 } G R h
  | ask k ih => intro Q E p s G R h; exact ih _ Q E p s G R h
  | choose src m k ih => intro Q E p s G R h; exact ⟨h.1, ih _ Q E p { s with drawn := s.drawn.bump src } G R h.2⟩
  | os q _ k ih => intro Q E p s G R h; exact ih _ Q E p { s with os := (Os.step s.os q).1 } G R h
  | call c hd _ _ k ih =>
    intro Q E p s G R h
    obtain ⟨r, s', hr, h⟩ := h
    obtain ⟨G', h1, h2⟩ := returns_fk hr R
    exact ⟨r, _, h1, ih r Q E p s' G' h2 h⟩
  | handled own k ih => intro Q E p s G R h; exact ih _ Q E p s G R h
  | genState g k ih =>
    intro Q E p s G R h
    obtain ⟨st, hs, h⟩ := h
    cases q : F g with
    | none => exact ⟨st, by rw [← R.same g q] at hs; exact hs, ih _ Q E p s G R h⟩
    | some x =>
      obtain ⟨_, k1, k2⟩ := R.fake g x q
      rw [k1] at hs
      cases hs
      rw [fk_seen] at h
      exact ⟨x, k2, ih _ Q E p s G R h⟩
  | newGen c k ih =>
    intro Q E p s G R h
    have := ih _ Q E p _ _ (R.push c) h
    rw [← R.size] at this
    exact this
  | resume g r _ k ih =>
    intro Q E p s G R h
    obtain ⟨res, s', hw, h⟩ := h
    obtain ⟨G', h1, h2⟩ := wakes_fk hw R
    exact ⟨res, _, h1, ih res Q E p s' G' h2 h⟩
  | yield _ _ _ _ => intro Q E p s G _ h; exact h
  | stack k ih => intro Q E p s G R h; exact ih _ Q E p s G R h
  | fork _ _ => intro Q E p s G _ h; exact h
  | thread k ih => intro Q E p s G R h; exact ih _ Q E p s G R h
  | await _ _ _ _ _ => intro Q E p s G _ h; exact h
theorem wpAny_fk {α : Type} {M : Model} {A : Around} {t : Sem α} {Q : α → Shared → Prop} {E : Value → Shared → Prop} {s : Shared} {G : Array GenState} (R : Rel F s.gens G) (h : wpAny M A t Q E s) :
    wpAny M A t (fun a s' => ∃ G0, Rel F G0 s'.gens ∧ Q a (gw s' G0)) (fun e s' => ∃ G0, Rel F G0 s'.gens ∧ E e (gw s' G0)) (gw s G) := fun Γ p hΓ => wp_fk F M Γ t _ _ p s G R (h Γ p hΓ)
/-- all that sleep now -/
def sleepers (G : Array GenState) (i : Nat) : Option GenState := match G[i]? with
  | some x => if isSusp x = true then some x else none
  | none => none
def faked (G : Array GenState) : Array GenState := G.map fk
theorem rel_faked (G : Array GenState) : Rel (sleepers G) (faked G) G := by
  refine ⟨by simp [faked], fun i x e => ?_, fun i e => ?_, fun i x e hx => ?_⟩
  · unfold sleepers at e
    split at e
    · rename_i y hy
      split at e
      · rename_i hs
        cases e
        exact ⟨hs, by simp [faked, hy], hy⟩
      · cases e
    · cases e
  · unfold sleepers at e
    unfold faked
    rw [Array.getElem?_map]
    cases hy : G[i]? with
    | none => rfl
    | some y =>
      rw [hy] at e
      cases y <;> first | rfl | (simp [isSusp] at e)
  · unfold sleepers at e
    unfold faked at hx
    rw [Array.getElem?_map] at hx
    cases hy : G[i]? with
    | none => rw [hy] at hx; cases hx
    | some y =>
      rw [hy] at e hx
      cases hx
      cases y <;> first | trivial | (simp [isSusp] at e)
theorem bare_faked {G : Array GenState} (h : ∀ y ∈ G, y.bare = true) : ∀ y ∈ faked G, y.bare = true := fun y hy => by
  obtain ⟨x, hx, rfl⟩ := Array.mem_map.mp hy
  rw [fk_bare]; exact h x hx
theorem bare_real (h : Rel F a b) (hF : ∀ i x, F i = some x → x.bare = true) (ha : ∀ y ∈ a, y.bare = true) : ∀ y ∈ b, y.bare = true := fun y hy => by
  obtain ⟨i, hi, rfl⟩ := Array.mem_iff_getElem.mp hy
  have hb : b[i]? = some b[i] := Array.getElem?_eq_getElem hi
  cases q : F i with
  | some x =>
    obtain ⟨_, _, k2⟩ := h.fake i x q
    rw [k2] at hb
    have : x = b[i] := Option.some.inj hb
    rw [← this]; exact hF i x q
  | none =>
    have k := h.same i q
    rw [hb] at k
    have hi' : i < a.size := by rw [← h.size]; exact hi
    rw [Array.getElem?_eq_getElem hi'] at k
    have : b[i] = a[i] := Option.some.inj k
    rw [this]; exact ha _ (Array.getElem_mem hi')
theorem sleepers_at {G : Array GenState} {g : Nat} {x : GenState} (h : G[g]? = some x) (hs : isSusp x = true) : sleepers G g = some x := by
  unfold sleepers; rw [h]; simp [hs]
theorem sleepers_bare {G : Array GenState} (h : ∀ y ∈ G, y.bare = true) : ∀ i x, sleepers G i = some x → x.bare = true := fun i x e => by
  unfold sleepers at e
  split at e
  · rename_i y hy
    split at e
    · cases e; exact h _ (Array.mem_of_getElem? hy)
    · cases e
  · cases e
end Fk
set_option Elab.async false
set_option linter.all false
set_option maxRecDepth 100000
set_option maxHeartbeats 1000000
/-! Pth: the generator path, its turns over the machine's own rules -/
namespace Pth
open PySem PySem.Spec PyProof.Rows L2 GenW
/-! ### the text of the loop -/
abbrev stPush (p1 p2 p3 p4 p5 : Pos) : Stmt := .Assign [.Name "push" p1] (.BinOp (.Name "push" p2) .FloorDiv (.Name "PUSH_SHARE" p3) p4) p5
abbrev stSlot (p1 p2 p3 p4 p5 p6 p7 p8 p9 p10 p11 : Pos) (k1 k2 : Nat) : Stmt := .Assign [.Name "slot" p1] (.BinOp (.BinOp (.BinOp (.BinOp (.Constant (.int 5) k1 p2) .Mult (.Name "slot" p3) p4) .Add (.Name "push" p5) p6) .Add (.Constant (.int 1) k2 p7) p8) .Mod (.Name "size" p9) p10) p11
/-- what the walk asks of the env -/
structure PEnv (env : Env) : Prop where
  kind : env.scope.kind = .function
  co : env.scope.isCoroutine = false
  gl : env.globals = mainGlobals
  slot : env.kindOf "slot" = some .local
  push : env.kindOf "push" = some .local
  size : env.kindOf "size" = some .local
  low : env.kindOf "_" = some .local
  share : env.kindOf "PUSH_SHARE" = some .globalImplicit
/-- the frame's names -/
structure Fm (env : Env) (h : Heap) (size slot push : Int) : Prop where
  ns : ∃ m, h.Ns env.locals m ∧ (∃ t, m "slot" = some (.int slot t)) ∧ (∃ t, m "push" = some (.int push t)) ∧ ∃ t, m "size" = some (.int size t)
  gl : ∃ mg, h.Ns mainGlobals mg ∧ ∃ t, mg "PUSH_SHARE" = some (.int 32 t)
theorem Fm.keeps {env : Env} {h h' : Heap} {size slot push : Int} (x : Fm env h size slot push) (k : ∀ b o, (b = env.locals ∨ b = mainGlobals) → h.get? b = some o → h'.get? b = some o) : Fm env h' size slot push := by
  obtain ⟨⟨m, hn, r⟩, ⟨mg, hg, q⟩⟩ := x
  exact ⟨⟨m, hn.at' fun o e => k _ o (.inl rfl) e, r⟩, ⟨mg, hg.at' fun o e => k _ o (.inr rfl) e, q⟩⟩
section
variable {prog : Program} {w : World} {A : Around} {E : Value → Shared → Prop} {s : Shared} {env : Env} {size slot push : Int}
theorem nm {x : Str} {p : Pos} {m : Str → Option Value} {v : Value} {Q : Value → Shared → Prop} (T : PEnv env) (hk : env.kindOf x = some .local) (hn : s.heap.Ns env.locals m) (hm : m x = some v) (h : Q v s) (hd : (x == ("__debug__" : Str)) = false := by decide) :
    wpAny (model prog w) A (eval (.Name x p) env) Q E s := wpAny_Name (wpAny_loadName_local T.kind hk hn hm h) hd
/-- push = push // PUSH_SHARE -/
theorem run_push {p1 p2 p3 p4 p5 : Pos} {Q : Flow → Shared → Prop} (T : PEnv env) (hL : env.locals ≠ mainGlobals) (x : Fm env s.heap size slot push)
    (h : ∀ h' tk, Fm env h' size slot (push.fdiv 32) → (∀ b o, b ≠ env.locals → s.heap.get? b = some o → h'.get? b = some o) → Q .next { s with heap := h', toks := tk }) :
    wpAny (model prog w) A (exec (stPush p1 p2 p3 p4 p5) env) Q E s := by
  obtain ⟨⟨m, hn, ⟨t1, e1⟩, ⟨t2, e2⟩, ⟨t3, e3⟩⟩, ⟨mg, hg, ⟨t4, e4⟩⟩⟩ := x
  have h1 : (("slot" : Str) = "push") = False := by simp [show ¬ (("slot" : Str) = "push") by decide]
  have h2 : (("size" : Str) = "push") = False := by simp [show ¬ (("size" : Str) = "push") by decide]
  refine wpAny_Assign_Name ?_
  refine wpAny_BinOp (nm T T.push hn e2 ?_)
  refine Calls.Name_function_global T.kind T.share (Calls.loadGlobal_global (by rw [T.gl]; exact hg) e4 ?_) (by decide)
  refine floordiv_int (by decide) ?_
  refine wpAny_storeName_local (s := { s with toks := s.toks + 1 }) T.push hn (fun h' hn' hs => ?_) (by rw [T.kind]; rfl)
  refine h h' _ ⟨⟨_, hn', ⟨t1, by rw [if_neg (by simp [h1])]; exact e1⟩, ⟨_, if_pos rfl⟩, ⟨t3, by rw [if_neg (by simp [h2])]; exact e3⟩⟩, ⟨mg, hg.sameBut hs (Ne.symm hL), t4, e4⟩⟩ fun b o hb e => (hs.2 b hb).trans e
/-- slot = (5 * slot + push + 1) % size -/
theorem run_slot {p1 p2 p3 p4 p5 p6 p7 p8 p9 p10 p11 : Pos} {k1 k2 : Nat} {Q : Flow → Shared → Prop} (T : PEnv env) (hL : env.locals ≠ mainGlobals) (hz : size ≠ 0) (x : Fm env s.heap size slot push)
    (h : ∀ h' tk, Fm env h' size ((5 * slot + push + 1).fmod size) push → (∀ b o, b ≠ env.locals → s.heap.get? b = some o → h'.get? b = some o) → Q .next { s with heap := h', toks := tk }) :
    wpAny (model prog w) A (exec (stSlot p1 p2 p3 p4 p5 p6 p7 p8 p9 p10 p11 k1 k2) env) Q E s := by
  obtain ⟨⟨m, hn, ⟨t1, e1⟩, ⟨t2, e2⟩, ⟨t3, e3⟩⟩, ⟨mg, hg, q⟩⟩ := x
  have h1 : (("push" : Str) = "slot") = False := by simp [show ¬ (("push" : Str) = "slot") by decide]
  have h2 : (("size" : Str) = "slot") = False := by simp [show ¬ (("size" : Str) = "slot") by decide]
  refine wpAny_Assign_Name ?_
  refine wpAny_BinOp (wpAny_BinOp (wpAny_BinOp (wpAny_BinOp (wpAny_Constant_int (nm (s := { s with toks := s.toks + 1 }) T T.slot hn e1 ?_)))))
  refine mul_int ?_ (CMul.ok (.inl ⟨by decide, by decide⟩))
  refine nm (s := { s with toks := s.toks + 1 + 1 }) T T.push hn e2 ?_
  refine add_int ?_
  refine wpAny_Constant_int ?_
  refine add_int ?_
  refine nm (s := { s with toks := s.toks + 1 + 1 + 1 + 1 + 1 }) T T.size hn e3 ?_
  refine mod_int' hz ?_
  refine wpAny_storeName_local (s := { s with toks := _ }) T.slot hn (fun h' hn' hs => ?_) (by rw [T.kind]; rfl)
  refine h h' _ ⟨⟨_, hn', ⟨_, if_pos rfl⟩, ⟨t2, by rw [if_neg (by simp [h1])]; exact e2⟩, ⟨t3, by rw [if_neg (by simp [h2])]; exact e3⟩⟩, ⟨mg, hg.sameBut hs (Ne.symm hL), q⟩⟩ fun b o hb e => (hs.2 b hb).trans e
end

/-! ### for, within a generator -/
section
variable {M : Model} {A : Around} {R : GenEnd} {Y : Protocol} {n : Nat} {s₀ : Shared} {c : Code} {fs : List Frame} {s : Shared} {env : Env}
  {K : Flow → Sem PySem.Fin} {H : Value → Sem PySem.Fin} {gd : Bool → Bool} {lv : List Value → List Value}
/-- what stands behind the loop's call -/
abbrev behind (env : Env) (K : Flow → Sem PySem.Fin) (H : Value → Sem PySem.Fin) (gd : Bool → Bool) (lv : List Value → List Value) (r : Result) : Sem PySem.Fin :=
  ((match r with | .ok f => (.pure f : Sem Flow) | .error e => .raise e).onRaise fun (x : Value) => do
    if (← field x 1) == Value.none then unsupported "frame.own-activation:exception-without-traceback"
    setFlight x env.frame).wrap K H gd lv
theorem seg_For {target iter : Expr} {body orelse : List Stmt} {pos : Pos} (hs : ∀ x, foldedSetIterable iter env x = pure x)
    (h : wpAny M (A.over c fs) (eval iter env) (fun x s₁ => wpAny M (A.over c fs) (pyIter x) (fun it s₂ => ∀ p, Seg M A R Y n s₀ (.forLoop target it body orelse env) (M.den (.forLoop target it body orelse env)) (.ret (behind env K H gd lv) none (gd false) (lv []) c p [] :: fs) s₂)
      (fun x s' => Seg M A R Y n s₀ c (H x) fs s') s₁) (fun x s' => Seg M A R Y n s₀ c (H x) fs s') s) :
    Seg M A R Y n s₀ c ((exec (.For target iter body orelse pos) env).wrap K H gd lv) fs s := by
  rw [exec_For]
  refine seg_at ?_
  show Seg _ _ _ _ _ _ _ (((eval iter env) >>= fun x => (foldedSetIterable iter env x >>= fun x => (standAt iter.pos >>= fun _ => (holding [x] (pyIter x)) >>= fun it => runOwn (.forLoop target it body orelse env) env))).wrap K H gd lv) fs s
  rw [Sem.bind_eq_wrap', Sem.wrap_wrap]
  refine seg_wrap (wpAny_mono h (fun x s₁ h₁ => ?_) fun _ _ h' => h')
  rw [hs x]
  refine seg_at ?_
  show Seg _ _ _ _ _ _ _ (((holding [x] (pyIter x)) >>= fun it => runOwn (.forLoop target it body orelse env) env).wrap K H gd lv) fs s₁
  rw [Sem.bind_eq_wrap', Sem.wrap_wrap]
  refine seg_wrap (wpAny_holding (wpAny_mono h₁ (fun it s₂ h₂ => ?_) fun _ _ h' => h'))
  exact seg_call h₂
end
section
variable {prog : Program} {w : World} {A : Around} {R : GenEnd} {Y : Protocol} {n : Nat} {s₀ : Shared} {fs : List Frame} {s : Shared} {env : Env}
/-- what is left of a loop's turn behind its body -/
abbrev turned (target : Expr) (it : Value) (body orelse : List Stmt) (env : Env) (f : Flow) : Sem PySem.Fin := match f with
  | .next | .cont => .pure (.again (.forLoop target it body orelse env))
  | .brk => .pure (.done .next)
  | .ret v => .pure (.done (.ret v))
abbrev noted (env : Env) (e : Value) : Sem PySem.Fin := (do noteFrame e env; theTreesLotGoes e : Sem Unit).wrap (fun _ => .raise e) .raise id id
theorem seg_forLoop {target : Expr} {it : Value} {body orelse : List Stmt} (hgo : ∀ v, letOwnedTupleGo target it v = pure ())
    (h : wpAny (model prog w) (A.over (.forLoop target it body orelse env) fs) (pyNext it) (fun r s₁ => match r with
        | none => Seg (model prog w) A R Y n s₀ (.block orelse env) ((model prog w).den (.block orelse env)) fs s₁
        | some v => wpAny (model prog w) (A.over (.forLoop target it body orelse env) fs) (assign target env v) (fun _ s₂ =>
            Seg (model prog w) A R Y n s₀ (.forLoop target it body orelse env) ((execs body env).wrap (turned target it body orelse env) (noted env) id id) fs s₂)
            (fun _ _ => False) s₁) (fun _ _ => False) s)
    (hq : (Code.block orelse env).quiet = true := by rfl) :
    Seg (model prog w) A R Y n s₀ (.forLoop target it body orelse env) ((model prog w).den (.forLoop target it body orelse env)) fs s := by
  show Seg _ A R Y n s₀ _ ((forTurn target it body orelse env).onRaise (fun x => do noteFrame x env; theTreesLotGoes x)) fs s
  rw [Sem.onRaise_eq_wrap]
  unfold forTurn
  refine seg_at ?_
  show Seg _ A R Y n s₀ _ ((((pyNext it).onRaise (fun _ => standAt { target.pos with line := 0 })) >>= fun r => (match r with
    | none => again (.block orelse env)
    | some v => letOwnedTupleGo target it v >>= fun _ => assign target env v >>= fun _ => execs body env >>= fun f => (match f with
      | .next | .cont => again (.forLoop target it body orelse env)
      | .brk => pure (.done .next)
      | .ret v => pure (.done (.ret v)) : Sem PySem.Fin) : Sem PySem.Fin)).wrap _ _ id id) fs s
  rw [Sem.bind_eq_wrap', Sem.wrap_wrap]
  refine seg_wrap (wpAny_onRaise (wpAny_mono h (fun r s₁ h₁ => ?_) fun _ _ h' => h'.elim))
  cases r with
  | none => exact seg_again hq h₁
  | some v =>
    show Seg _ A R Y n s₀ _ ((letOwnedTupleGo target it v >>= fun _ => assign target env v >>= fun _ => execs body env >>= fun f => (match f with
      | .next | .cont => again (.forLoop target it body orelse env)
      | .brk => pure (.done .next)
      | .ret v => pure (.done (.ret v)) : Sem PySem.Fin)).wrap _ _ id id) fs s₁
    rw [hgo v]
    show Seg _ A R Y n s₀ _ ((assign target env v >>= fun _ => execs body env >>= fun f => (match f with
      | .next | .cont => again (.forLoop target it body orelse env)
      | .brk => pure (.done .next)
      | .ret v => pure (.done (.ret v)) : Sem PySem.Fin)).wrap _ _ id id) fs s₁
    rw [Sem.bind_eq_wrap', Sem.wrap_wrap]
    refine seg_wrap (wpAny_mono h₁ (fun _ s₂ h₂ => ?_) fun _ _ h' => h'.elim)
    rw [Sem.bind_eq_wrap', Sem.wrap_wrap]
    refine cast ?_ h₂
    congr 1
    refine Sem.wrap_congr _ id id (fun f => by cases f <;> rfl) (fun e => ?_)
    show _ = ((do noteFrame e env; theTreesLotGoes e : Sem Unit).bind (fun _ => Sem.raise e))
    rw [Sem.bind_eq_wrap]
end

/-! ### the loop of path -/
/-- the pushes and the slots -/
def pu (code : Int) : Nat → Int
  | 0 => code
  | i + 1 => (pu code i).fdiv 32
def sl (size code : Int) : Nat → Int
  | 0 => code.fmod size
  | i + 1 => (5 * sl size code i + pu code (i + 1) + 1).fmod size
/-- ahead of the turn i: the frame, and the iterator of range(N) -/
structure LSt (env : Env) (it : Addr) (N : Nat) (size code : Int) (i : Nat) (h : Heap) : Prop where
  fm : Fm env h size (sl size code i) (pu code i)
  rg : IsRangeIter h it (0 + (i : Nat) * 1) ((N : Int) - (i : Nat)) 1
/-- amid the turn i: the slot is out -/
structure LSy (env : Env) (it : Addr) (N : Nat) (size code : Int) (i : Nat) (h : Heap) : Prop where
  fm : Fm env h size (sl size code i) (pu code i)
  rg : IsRangeIter h it (0 + ((i + 1 : Nat) : Int) * 1) ((N : Int) - ((i + 1 : Nat) : Int)) 1
/-- only the frame and the iterator have changed -/
def Mv (L it : Addr) (s s' : Shared) : Prop := ∃ h' tk, s' = { s with heap := h', toks := tk } ∧ ∀ b o, b ≠ L → b ≠ it → s.heap.get? b = some o → h'.get? b = some o
theorem Mv.refl {L it : Addr} {s : Shared} : Mv L it s s := ⟨s.heap, s.toks, rfl, fun _ _ _ _ e => e⟩
theorem Mv.trans {L it : Addr} {s s1 s2 : Shared} (a : Mv L it s s1) (b : Mv L it s1 s2) : Mv L it s s2 := by
  obtain ⟨h1, t1, rfl, k1⟩ := a
  obtain ⟨h2, t2, rfl, k2⟩ := b
  exact ⟨h2, t2, rfl, fun c o n1 n2 e => k2 c o n1 n2 (k1 c o n1 n2 e)⟩
/-- asleep: the generator's own things stay -/
def Slp (env : Env) (it : Addr) (s s' : Shared) : Prop := ∀ b o, (b = env.locals ∨ b = it ∨ b = mainGlobals) → s.heap.get? b = some o → s'.heap.get? b = some o
theorem LSy.keeps {env : Env} {it : Addr} {N : Nat} {size code : Int} {i : Nat} {s s' : Shared} (x : LSy env it N size code i s.heap) (k : Slp env it s s') : LSy env it N size code i s'.heap :=
  ⟨x.fm.keeps fun b o hb e => k b o (hb.elim .inl fun z => .inr (.inr z)) e, k it _ (.inr (.inl rfl)) x.rg⟩
/-- the wake that began at s₀ has come to s: ahead of the first slot by its own word, later the frame and the iterator alone have changed -/
def Jr (J0 : Shared → Shared → Prop) (L it : Addr) (i : Nat) (s₀ s : Shared) : Prop := if i = 0 then J0 s₀ s else Mv L it s₀ s
def YP (J0 : Shared → Shared → Prop) (env : Env) (it : Addr) (N : Nat) (size code : Int) : Protocol := fun n s₀ v s kap =>
  ∃ i t, n + 1 + i = N ∧ v = .int (sl size code i) t ∧ Jr J0 env.locals it i s₀ s ∧ LSy env it N size code i s.heap ∧ ∀ s', Slp env it s s' → kap (.send .none) s'
def RP (J0 : Shared → Shared → Prop) (L it : Addr) (N : Nat) : GenEnd := fun n s₀ r s => r = .ok (.ret .none) ∧ n = 0 ∧ Jr J0 L it N s₀ s
section
variable {prog : Program} {w : World} {A : Around} {env : Env} {J0 : Shared → Shared → Prop} {it : Addr} {N : Nat} {size code : Int}
abbrev loopBody (p0 p0' p0'' p1 p2 p3 p4 p5 q1 q2 q3 q4 q5 q6 q7 q8 q9 q10 q11 : Pos) (k1 k2 : Nat) : List Stmt :=
  [.Expr (.Yield (some (.Name "slot" p0)) p0') p0'', stPush p1 p2 p3 p4 p5, stSlot q1 q2 q3 q4 q5 q6 q7 q8 q9 q10 q11 k1 k2]
theorem path_seg {pt p0 p0' p0'' p1 p2 p3 p4 p5 q1 q2 q3 q4 q5 q6 q7 q8 q9 q10 q11 : Pos} {k1 k2 : Nat} (T : PEnv env) (hi : interactive env = false) (hL : env.locals ≠ mainGlobals) (hiL : it ≠ env.locals) (hiG : it ≠ mainGlobals) (hz : size ≠ 0)
    (hJ : ∀ s₀ s s', J0 s₀ s → Mv env.locals it s s' → J0 s₀ s') {kf : Result → Sem PySem.Fin} {g : Bool → Bool} {l : List Value} {c : Code} {p : Pos} (hg : g false = false)
    (hA : (A.over (.forLoop (.Name "_" pt) (.ref it) (loopBody p0 p0' p0'' p1 p2 p3 p4 p5 q1 q2 q3 q4 q5 q6 q7 q8 q9 q10 q11 k1 k2) [] env) [.ret kf none (g false) l c p []]).handled = none)
    (hend : ∀ s₀ s, Jr J0 env.locals it N s₀ s → Seg (model prog w) A (RP J0 env.locals it N) (YP J0 env it N size code) 0 s₀ c (kf (.ok .next)) [] s) :
    ∀ (r i : Nat) (s₀ s : Shared), i + r = N → LSt env it N size code i s.heap → Jr J0 env.locals it i s₀ s →
      Seg (model prog w) A (RP J0 env.locals it N) (YP J0 env it N size code) r s₀ (.forLoop (.Name "_" pt) (.ref it) (loopBody p0 p0' p0'' p1 p2 p3 p4 p5 q1 q2 q3 q4 q5 q6 q7 q8 q9 q10 q11 k1 k2) [] env)
        ((model prog w).den (.forLoop (.Name "_" pt) (.ref it) (loopBody p0 p0' p0'' p1 p2 p3 p4 p5 q1 q2 q3 q4 q5 q6 q7 q8 q9 q10 q11 k1 k2) [] env)) [.ret kf none (g false) l c p []] s := by
  have jmv : ∀ i s₀ s s', Jr J0 env.locals it i s₀ s → Mv env.locals it s s' → Jr J0 env.locals it i s₀ s' := fun i s₀ s s' h m => by
    unfold Jr at h ⊢
    split at h
    · rename_i e
      rw [if_pos e]; exact hJ _ _ _ h m
    · rename_i e
      rw [if_neg e]; exact h.trans m
  intro r
  induction r with
  | zero =>
    intro i s₀ s hir x j
    obtain rfl : i = N := by omega
    refine seg_forLoop (fun v => rfl) ?_
    refine wpAny_pyNext_range_end hA x.rg (by omega) fun h' eb => ?_
    show Seg _ _ _ _ 0 s₀ (.block [] env) ((model prog w).den (.block [] env)) _ _
    refine seg_leaf (.ok .next) (hend s₀ _ (jmv _ _ _ _ j ⟨h', s.toks, rfl, fun b o _ hb e => eb b o hb e⟩))
  | succ r ih =>
    intro i s₀ s hir x j
    refine seg_forLoop (fun v => rfl) ?_
    have W := Walks.range (prog := prog) (w := w) hA it 0 1 N
    refine W.item i s _ _ (by omega) x.rg fun v h1 t1 hv rg1 k1' => ?_
    obtain ⟨tv, rfl⟩ := hv
    have kk : ∀ b o, b ≠ it → s.heap.get? b = some o → h1.get? b = some o := fun b o hb e => k1' b o (by simpa using hb) e
    have f1 : Fm env h1 size (sl size code i) (pu code i) := x.fm.keeps fun b o hb e => kk b o (by rcases hb with hb | hb <;> rw [hb] <;> first | exact Ne.symm hiL | exact Ne.symm hiG) e
    have j1 : Jr J0 env.locals it i s₀ { s with heap := h1, toks := t1 } := jmv _ _ _ _ j ⟨h1, t1, rfl, fun b o _ hb e => kk b o hb e⟩
    -- the loop's own name
    show wpAny _ _ (assign (.Name "_" pt) env _) _ _ _
    obtain ⟨⟨m, hn, ⟨a1, e1⟩, ⟨a2, e2⟩, ⟨a3, e3⟩⟩, ⟨mg, hg', gq⟩⟩ := f1
    have n1 : ¬ (("slot" : Str) = "_") := by decide
    have n2 : ¬ (("push" : Str) = "_") := by decide
    have n3 : ¬ (("size" : Str) = "_") := by decide
    refine wpAny_assign_Name (wpAny_storeName_local (s := { s with heap := h1, toks := t1 }) T.low hn (fun h2 hn2 hs2 => ?_) (by rw [T.kind]; rfl))
    have f2 : Fm env h2 size (sl size code i) (pu code i) := ⟨⟨_, hn2, ⟨a1, by rw [if_neg n1]; exact e1⟩, ⟨a2, by rw [if_neg n2]; exact e2⟩, ⟨a3, by rw [if_neg n3]; exact e3⟩⟩, ⟨mg, hg'.sameBut hs2 (Ne.symm hL), gq⟩⟩
    have j2 : Jr J0 env.locals it i s₀ { s with heap := h2, toks := t1 + 1 } := jmv _ _ _ _ j1 ⟨h2, t1 + 1, rfl, fun b o hb _ e => (hs2.2 b hb).trans e⟩
    have y2 : LSy env it N size code i h2 := ⟨f2, (hs2.2 it hiL).trans rg1⟩
    -- yield slot
    refine seg_execs_cons ?_
    refine seg_Expr_Yield (n := r) (gd := id) (by rfl) rfl (by show (g false || false) = false; rw [hg]; rfl) ?_ T.co hi
    obtain ⟨⟨m2, hm2, ⟨b1, c1⟩, _⟩, _⟩ := f2
    refine nm (s := { s with heap := h2, toks := t1 + 1 }) T T.slot hm2 c1 ?_
    intro kap hk
    refine ⟨i, b1, by omega, rfl, j2, y2, fun s'' z => hk .none s'' ?_⟩
    show Seg _ _ _ _ r s'' _ _ _ _
    have y3 := y2.keeps (s := { s with heap := h2, toks := t1 + 1 }) (s' := s'') z
    -- push, slot
    show Seg _ _ _ _ r s'' _ ((execs [stPush p1 p2 p3 p4 p5, stSlot q1 q2 q3 q4 q5 q6 q7 q8 q9 q10 q11 k1 k2] env).wrap _ _ id id) _ s''
    refine seg_execs_cons (seg_wrap (run_push T hL y3.fm fun h4 t4 f4 k4 => ?_))
    show Seg _ _ _ _ r s'' _ ((execs [stSlot q1 q2 q3 q4 q5 q6 q7 q8 q9 q10 q11 k1 k2] env).wrap _ _ id id) _ _
    refine seg_execs_cons (seg_wrap (run_slot (s := { s'' with heap := h4, toks := t4 }) T hL hz f4 fun h5 t5 f5 k5 => ?_))
    show Seg _ _ _ _ r s'' _ ((execs [] env).wrap _ _ id id) _ _
    refine seg_execs_nil ?_
    refine seg_again rfl ?_
    refine ih (i + 1) s'' _ (by omega) ⟨f5, (k5 it _ hiL (k4 it _ hiL y3.rg))⟩ ?_
    unfold Jr
    rw [if_neg (by omega)]
    exact ⟨h5, t5, rfl, fun b o hb _ e => k5 b o hb (k4 b o hb e)⟩
end
end Pth
set_option Elab.async false
set_option linter.all false
set_option maxRecDepth 100000
set_option maxHeartbeats 1000000
/-! Pg: the first wake of a generator, its end by any word -/
namespace Pth
open PySem PySem.Spec PyProof.Rows L2 GenW
def SegG (M : Model) (A : Around) (Φ : End → Shared → Prop) (c : Code) (t : Sem PySem.Fin) (fs : List Frame) (s : Shared) : Prop :=
  ∀ (Γ : PySem.Ctx) (p : Pos), Γ.code = c → Γ.Woken A → ∃ e s', Runs M Γ p t fs s e s' ∧ Φ e s'
section
variable {M : Model} {A : Around} {Φ : End → Shared → Prop} {c : Code} {fs : List Frame} {s : Shared} {env : Env}
theorem sg_wrap {α : Type} {m : Sem α} {K : α → Sem PySem.Fin} {H : Value → Sem PySem.Fin} {gd lv}
    (h : wpAny M (A.over c fs) m (fun a s' => SegG M A Φ c (K a) fs s') (fun x s' => SegG M A Φ c (H x) fs s') s) : SegG M A Φ c (m.wrap K H gd lv) fs s := by
  rintro Γ p rfl hΓ
  exact runs_wrap_of_wp K H gd lv m (h (Γ.over fs) p (hΓ.over fs)) (fun a p' s' h' => h' Γ p' rfl hΓ) (fun x p' s' h' => h' Γ p' rfl hΓ)
theorem sg_at {p' : Pos} {k : Unit → Sem PySem.Fin} (h : SegG M A Φ c (k ()) fs s) : SegG M A Φ c (.at p' k) fs s :=
  sg_wrap (m := standAt p') (K := k) (H := .raise) (gd := id) (lv := id) (wpAny_standAt h)
theorem sg_point {l : List Value} {k : Unit → Sem PySem.Fin} (h : SegG M A Φ c (k ()) fs s) : SegG M A Φ c (.point l k) fs s :=
  sg_wrap (m := point) (K := k) (H := .raise) (gd := id) (lv := fun _ => l) (wpAny_point h)
theorem sg_call {c' : Code} {h g l} {k : Result → Sem PySem.Fin} (hc : ∀ p, SegG M A Φ c' (M.den c') (.ret k h g l c p [] :: fs) s) : SegG M A Φ c (.call c' h g l k) fs s := by
  rintro Γ p rfl hΓ
  obtain ⟨e, s', hr, he⟩ := hc p (Γ.goto c') p rfl (hΓ.goto c')
  exact ⟨e, s', runs_call_seg hr, he⟩
theorem sg_leaf {k h g l c₁ p₁ kp} (r : Result) (hk : SegG M A Φ c₁ (k r) fs s) : SegG M A Φ c (leafOf r) (.ret k h g l c₁ p₁ kp :: fs) s := by
  rintro Γ p rfl hΓ
  obtain ⟨e, s', hr, he⟩ := hk (Γ.goto c₁) p₁ rfl (hΓ.goto c₁)
  exact ⟨e, s', Runs.pop r hr, he⟩
theorem sg_again {c' : Code} (hq : c'.quiet = true) (hc : SegG M A Φ c' (M.den c') fs s) : SegG M A Φ c (.pure (.again c')) fs s := by
  rintro Γ p rfl hΓ
  obtain ⟨e, s', hr, he⟩ := hc (Γ.goto c') p rfl (hΓ.goto c')
  exact ⟨e, s', Runs.head (c₁ := c') (fun _ _ x => .again hq x) hr, he⟩
theorem sg_end (r : Result) (h : Φ (.ret r) s) : SegG M A Φ c (leafOf r) [] s := by
  rintro Γ p rfl _
  exact ⟨.ret r, s, Runs.leaf r, h⟩
theorem sg_yield {v g l} {k : Resume → Sem PySem.Fin} (hfs : splitAtGen fs = none) (h : ∀ p, Φ (.susp v g l k c p fs) s) : SegG M A Φ c (.yield v g l k) fs s := by
  rintro Γ p rfl _
  exact ⟨_, s, Runs.yield' fs hfs, h p⟩
variable {K : Flow → Sem PySem.Fin} {H : Value → Sem PySem.Fin} {gd : Bool → Bool} {lv : List Value → List Value}
theorem sg_execs_nil (h : SegG M A Φ c (K .next) fs s) : SegG M A Φ c ((execs [] env).wrap K H gd lv) fs s := h
theorem sg_execs_cons {st : Stmt} {rest : List Stmt}
    (h : SegG M A Φ c ((exec st env).wrap (fun f => match f with | .next => (execs rest env).wrap K H gd lv | f => K f) H gd lv) fs s) :
    SegG M A Φ c ((execs (st :: rest) env).wrap K H gd lv) fs s := by rw [execs_cons_wrap]; exact h
/-- some statements ahead, by one judgement -/
theorem execs_app_wrap : ∀ (l r : List Stmt) (K : Flow → Sem PySem.Fin), (execs (l ++ r) env).wrap K H gd lv = (execs l env).wrap (fun f => match f with | .next => (execs r env).wrap K H gd lv | f => K f) H gd lv := by
  intro l
  induction l with
  | nil => intro r K; rfl
  | cons a t ih =>
    intro r K
    rw [List.cons_append, execs_cons_wrap, execs_cons_wrap]
    refine Sem.wrap_congr _ gd lv (fun f => ?_) (fun _ => rfl)
    cases f with
    | next => exact ih r K
    | _ => rfl
theorem sg_app {l r : List Stmt} (h : SegG M A Φ c ((execs l env).wrap (fun f => match f with | .next => (execs r env).wrap K H gd lv | f => K f) H gd lv) fs s) : SegG M A Φ c ((execs (l ++ r) env).wrap K H gd lv) fs s := by
  rw [execs_app_wrap]; exact h
theorem sg_For {target iter : Expr} {body orelse : List Stmt} {pos : Pos} (hs : ∀ x, foldedSetIterable iter env x = pure x)
    (h : wpAny M (A.over c fs) (eval iter env) (fun x s₁ => wpAny M (A.over c fs) (pyIter x) (fun it s₂ => ∀ p, SegG M A Φ (.forLoop target it body orelse env) (M.den (.forLoop target it body orelse env)) (.ret (behind env K H gd lv) none (gd false) (lv []) c p [] :: fs) s₂)
      (fun x s' => SegG M A Φ c (H x) fs s') s₁) (fun x s' => SegG M A Φ c (H x) fs s') s) :
    SegG M A Φ c ((exec (.For target iter body orelse pos) env).wrap K H gd lv) fs s := by
  rw [exec_For]
  refine sg_at ?_
  show SegG _ _ _ _ (((eval iter env) >>= fun x => (foldedSetIterable iter env x >>= fun x => (standAt iter.pos >>= fun _ => (holding [x] (pyIter x)) >>= fun it => runOwn (.forLoop target it body orelse env) env))).wrap K H gd lv) fs s
  rw [Sem.bind_eq_wrap', Sem.wrap_wrap]
  refine sg_wrap (wpAny_mono h (fun x s₁ h₁ => ?_) fun _ _ h' => h')
  rw [hs x]
  refine sg_at ?_
  show SegG _ _ _ _ (((holding [x] (pyIter x)) >>= fun it => runOwn (.forLoop target it body orelse env) env).wrap K H gd lv) fs s₁
  rw [Sem.bind_eq_wrap', Sem.wrap_wrap]
  refine sg_wrap (wpAny_holding (wpAny_mono h₁ (fun it s₂ h₂ => ?_) fun _ _ h' => h'))
  exact sg_call h₂
end
section
variable {prog : Program} {w : World} {A : Around} {Φ : End → Shared → Prop} {fs : List Frame} {s : Shared} {env : Env}
theorem sg_forLoop {target : Expr} {it : Value} {body orelse : List Stmt} (hgo : ∀ v, letOwnedTupleGo target it v = pure ())
    (h : wpAny (model prog w) (A.over (.forLoop target it body orelse env) fs) (pyNext it) (fun r s₁ => match r with
        | none => SegG (model prog w) A Φ (.block orelse env) ((model prog w).den (.block orelse env)) fs s₁
        | some v => wpAny (model prog w) (A.over (.forLoop target it body orelse env) fs) (assign target env v) (fun _ s₂ =>
            SegG (model prog w) A Φ (.forLoop target it body orelse env) ((execs body env).wrap (turned target it body orelse env) (noted env) id id) fs s₂)
            (fun _ _ => False) s₁) (fun _ _ => False) s)
    (hq : (Code.block orelse env).quiet = true := by rfl) :
    SegG (model prog w) A Φ (.forLoop target it body orelse env) ((model prog w).den (.forLoop target it body orelse env)) fs s := by
  show SegG _ A Φ _ ((forTurn target it body orelse env).onRaise (fun x => do noteFrame x env; theTreesLotGoes x)) fs s
  rw [Sem.onRaise_eq_wrap]
  unfold forTurn
  refine sg_at ?_
  show SegG _ A Φ _ ((((pyNext it).onRaise (fun _ => standAt { target.pos with line := 0 })) >>= fun r => (match r with
    | none => again (.block orelse env)
    | some v => letOwnedTupleGo target it v >>= fun _ => assign target env v >>= fun _ => execs body env >>= fun f => (match f with
      | .next | .cont => again (.forLoop target it body orelse env)
      | .brk => pure (.done .next)
      | .ret v => pure (.done (.ret v)) : Sem PySem.Fin) : Sem PySem.Fin)).wrap _ _ id id) fs s
  rw [Sem.bind_eq_wrap', Sem.wrap_wrap]
  refine sg_wrap (wpAny_onRaise (wpAny_mono h (fun r s₁ h₁ => ?_) fun _ _ h' => h'.elim))
  cases r with
  | none => exact sg_again hq h₁
  | some v =>
    show SegG _ A Φ _ ((letOwnedTupleGo target it v >>= fun _ => assign target env v >>= fun _ => execs body env >>= fun f => (match f with
      | .next | .cont => again (.forLoop target it body orelse env)
      | .brk => pure (.done .next)
      | .ret v => pure (.done (.ret v)) : Sem PySem.Fin)).wrap _ _ id id) fs s₁
    rw [hgo v]
    show SegG _ A Φ _ ((assign target env v >>= fun _ => execs body env >>= fun f => (match f with
      | .next | .cont => again (.forLoop target it body orelse env)
      | .brk => pure (.done .next)
      | .ret v => pure (.done (.ret v)) : Sem PySem.Fin)).wrap _ _ id id) fs s₁
    rw [Sem.bind_eq_wrap', Sem.wrap_wrap]
    refine sg_wrap (wpAny_mono h₁ (fun _ s₂ h₂ => ?_) fun _ _ h' => h'.elim)
    rw [Sem.bind_eq_wrap', Sem.wrap_wrap]
    refine cast ?_ h₂
    congr 1
    refine Sem.wrap_congr _ id id (fun f => by cases f <;> rfl) (fun e => ?_)
    show _ = ((do noteFrame e env; theTreesLotGoes e : Sem Unit).bind (fun _ => Sem.raise e))
    rw [Sem.bind_eq_wrap]
theorem sg_Expr_Yield {K : Flow → Sem PySem.Fin} {H : Value → Sem PySem.Fin} {e : Expr} {ypos pos : Pos} {c : Code} (hfs : splitAtGen fs = none)
    (h : wpAny (model prog w) (A.over c fs) (eval e env) (fun v s' => ∀ p k, (∀ v, k (.send v) = (dropValue (.Yield (some e) ypos) pos v).wrap K H id id) → Φ (.susp v false [] k c p fs) s')
      (fun x s' => SegG (model prog w) A Φ c (H x) fs s') s) (hco : env.scope.isCoroutine = false := by rfl) (hi : interactive env = false := by rfl) :
    SegG (model prog w) A Φ c ((exec (.Expr (.Yield (some e) ypos) pos) env).wrap K H id id) fs s := by
  rw [exec_Expr env _ pos hi rfl]
  show SegG _ A Φ c (.at pos fun _ => ((eval e env >>= fun v => (standAt ypos >>= fun _ => yieldOut env v)) >>= fun x =>
    dropValue (.Yield (some e) ypos) pos x).wrap K H id id) fs s
  have hy : ∀ v, yieldOut env v = yieldValue v := fun v => by simp only [yieldOut, hco, Bool.false_eq_true, if_false]
  simp only [hy]
  refine sg_at ?_
  rw [Sem.bind_eq_wrap', Sem.bind_eq_wrap', Sem.wrap_wrap, Sem.wrap_wrap]
  refine sg_wrap (wpAny_mono h (fun v s' h' => ?_) fun _ _ x => x)
  refine sg_at ?_
  exact sg_yield hfs fun p => h' p _ fun v => rfl
theorem sg_func {body : List Stmt}
    (h : SegG (model prog w) A Φ (.func body env) ((execs body env).wrap (fun f => .pure (.done (.ret (match f with | .ret v => v | _ => .none))))
      (fun e => (leaving env e).wrap (fun _ => .raise e) .raise id id) id id) fs s) :
    SegG (model prog w) A Φ (.func body env) ((model prog w).den (.func body env)) fs s := by
  show SegG _ A Φ _ (.point [] fun _ => ((execs body env).onRaise (leaving env)) >>= _) fs s
  refine sg_point ?_
  rw [Sem.onRaise_eq_wrap, Sem.bind_eq_wrap', Sem.wrap_wrap]
  rw [Sem.wrap_congr (execs body env) _ _ (K' := fun f => .pure (.done (.ret (match f with | .ret v => v | _ => .none))))
    (H' := fun e => (leaving env e).wrap (fun _ => .raise e) .raise id id) (fun f => by cases f <;> rfl)
    (fun e => by rw [Sem.bind_eq_wrap, Sem.wrap_wrap]; rfl)]
  exact h
end

/-! ### the first turn -/
/-- what the first wake comes to: J the state's own word; no slot at all, or the first one is out -/
def FstP (prog : Program) (w : World) (A : Around) (env : Env) (N : Nat) (size code : Int) (low : List Addr) (J : Shared → Prop) (e : End) (s' : Shared) : Prop := match e with
  | .ret r => r = .ok (.ret .none) ∧ N = 0 ∧ J s'
  | .susp v g l k c p fs => (End.susp v g l k c p fs).quiet = true ∧ 0 < N ∧ (∃ t, v = .int (sl size code 0) t) ∧ J s' ∧ ∃ it : Addr, (∀ b ∈ low, b < it) ∧ LSy env it N size code 0 s'.heap ∧
      ∀ s'', Slp env it s' s'' → Seg (model prog w) A (RP (fun _ _ => True) env.locals it N) (YP (fun _ _ => True) env it N size code) (N - 1) s'' c (k (.send .none)) fs s''
section
variable {prog : Program} {w : World} {A : Around} {env : Env} {it : Addr} {N : Nat} {size code : Int}
theorem path_first {J : Shared → Prop} {low : List Addr} {pt p0 p0' p0'' p1 p2 p3 p4 p5 q1 q2 q3 q4 q5 q6 q7 q8 q9 q10 q11 : Pos} {k1 k2 : Nat} (T : PEnv env) (hi : interactive env = false) (hL : env.locals ≠ mainGlobals) (hiL : it ≠ env.locals) (hiG : it ≠ mainGlobals) (hz : size ≠ 0) (hlow : ∀ b ∈ low, b < it)
    (hJ : ∀ s s', J s → Mv env.locals it s s' → J s') {kf : Result → Sem PySem.Fin} {g : Bool → Bool} {l : List Value} {c : Code} {p : Pos} (hg : g false = false)
    (hA : (A.over (.forLoop (.Name "_" pt) (.ref it) (loopBody p0 p0' p0'' p1 p2 p3 p4 p5 q1 q2 q3 q4 q5 q6 q7 q8 q9 q10 q11 k1 k2) [] env) [.ret kf none (g false) l c p []]).handled = none)
    (hend0 : ∀ s, N = 0 → J s → SegG (model prog w) A (FstP prog w A env N size code low J) c (kf (.ok .next)) [] s)
    (hend : ∀ s₀ s, Jr (fun _ _ => True) env.locals it N s₀ s → Seg (model prog w) A (RP (fun _ _ => True) env.locals it N) (YP (fun _ _ => True) env it N size code) 0 s₀ c (kf (.ok .next)) [] s)
    {s : Shared} (x : LSt env it N size code 0 s.heap) (j : J s) :
    SegG (model prog w) A (FstP prog w A env N size code low J) (.forLoop (.Name "_" pt) (.ref it) (loopBody p0 p0' p0'' p1 p2 p3 p4 p5 q1 q2 q3 q4 q5 q6 q7 q8 q9 q10 q11 k1 k2) [] env)
        ((model prog w).den (.forLoop (.Name "_" pt) (.ref it) (loopBody p0 p0' p0'' p1 p2 p3 p4 p5 q1 q2 q3 q4 q5 q6 q7 q8 q9 q10 q11 k1 k2) [] env)) [.ret kf none (g false) l c p []] s := by
  refine sg_forLoop (fun v => rfl) ?_
  by_cases hN : N = 0
  · refine wpAny_pyNext_range_end hA x.rg (by omega) fun h' eb => ?_
    show SegG _ _ _ (.block [] env) ((model prog w).den (.block [] env)) _ _
    exact sg_leaf (.ok .next) (hend0 _ hN (hJ _ _ j ⟨h', s.toks, rfl, fun b o _ hb e => eb b o hb e⟩))
  · have W := Walks.range (prog := prog) (w := w) hA it 0 1 N
    refine W.item 0 s _ _ (by omega) x.rg fun v h1 t1 hv rg1 k1' => ?_
    obtain ⟨tv, rfl⟩ := hv
    have kk : ∀ b o, b ≠ it → s.heap.get? b = some o → h1.get? b = some o := fun b o hb e => k1' b o (by simpa using hb) e
    have f1 : Fm env h1 size (sl size code 0) (pu code 0) := x.fm.keeps fun b o hb e => kk b o (by rcases hb with hb | hb <;> rw [hb] <;> first | exact Ne.symm hiL | exact Ne.symm hiG) e
    have j1 : J { s with heap := h1, toks := t1 } := hJ _ _ j ⟨h1, t1, rfl, fun b o _ hb e => kk b o hb e⟩
    show wpAny _ _ (assign (.Name "_" pt) env _) _ _ _
    obtain ⟨⟨m, hn, ⟨a1, e1⟩, ⟨a2, e2⟩, ⟨a3, e3⟩⟩, ⟨mg, hg', gq⟩⟩ := f1
    have n1 : ¬ (("slot" : Str) = "_") := by decide
    have n2 : ¬ (("push" : Str) = "_") := by decide
    have n3 : ¬ (("size" : Str) = "_") := by decide
    refine wpAny_assign_Name (wpAny_storeName_local (s := { s with heap := h1, toks := t1 }) T.low hn (fun h2 hn2 hs2 => ?_) (by rw [T.kind]; rfl))
    have f2 : Fm env h2 size (sl size code 0) (pu code 0) := ⟨⟨_, hn2, ⟨a1, by rw [if_neg n1]; exact e1⟩, ⟨a2, by rw [if_neg n2]; exact e2⟩, ⟨a3, by rw [if_neg n3]; exact e3⟩⟩, ⟨mg, hg'.sameBut hs2 (Ne.symm hL), gq⟩⟩
    have j2 : J { s with heap := h2, toks := t1 + 1 } := hJ _ _ j1 ⟨h2, t1 + 1, rfl, fun b o hb _ e => (hs2.2 b hb).trans e⟩
    have y2 : LSy env it N size code 0 h2 := ⟨f2, (hs2.2 it hiL).trans rg1⟩
    refine sg_execs_cons ?_
    refine sg_Expr_Yield (by rfl) ?_ T.co hi
    obtain ⟨⟨m2, hm2, ⟨b1, c1⟩, _⟩, _⟩ := f2
    refine nm (s := { s with heap := h2, toks := t1 + 1 }) T T.slot hm2 c1 ?_
    intro pp kk' hkk
    refine ⟨?_, by omega, ⟨b1, rfl⟩, j2, it, hlow, y2, fun s'' z => ?_⟩
    · show (!(false || (g false || false))) = true
      rw [hg]; rfl
    rw [hkk]
    show Seg _ _ _ _ _ s'' _ (((dropValue (.Yield (some (.Name "slot" p0)) p0') p0'' .none)).wrap _ _ id id) _ s''
    have y3 := y2.keeps (s := { s with heap := h2, toks := t1 + 1 }) (s' := s'') z
    show Seg _ _ _ _ _ s'' _ ((execs [stPush p1 p2 p3 p4 p5, stSlot q1 q2 q3 q4 q5 q6 q7 q8 q9 q10 q11 k1 k2] env).wrap _ _ id id) _ s''
    refine seg_execs_cons (seg_wrap (run_push T hL y3.fm fun h4 t4 f4 k4 => ?_))
    show Seg _ _ _ _ _ s'' _ ((execs [stSlot q1 q2 q3 q4 q5 q6 q7 q8 q9 q10 q11 k1 k2] env).wrap _ _ id id) _ _
    refine seg_execs_cons (seg_wrap (run_slot (s := { s'' with heap := h4, toks := t4 }) T hL hz f4 fun h5 t5 f5 k5 => ?_))
    show Seg _ _ _ _ _ s'' _ ((execs [] env).wrap _ _ id id) _ _
    refine seg_execs_nil ?_
    refine seg_again rfl ?_
    refine path_seg T hi hL hiL hiG hz (fun _ _ _ _ _ => trivial) hg hA hend (N - 1) 1 s'' _ (by omega) ⟨f5, (k5 it _ hiL (k4 it _ hiL y3.rg))⟩ ?_
    unfold Jr
    rw [if_neg (by omega)]
    exact ⟨h5, t5, rfl, fun b o hb _ e => k5 b o hb (k4 b o hb e)⟩
end
end Pth
set_option Elab.async false
set_option linter.all false
set_option maxRecDepth 100000
set_option maxHeartbeats 1000000
/-! Pm: path is called -/
namespace Pth
open PySem PySem.Spec PyProof.Rows L2 GenW
theorem run_range {X : Cx} {pins : List (Addr × Obj)} {σ : L2.St} {H : Hp} {s : Shared} {j : Int} {p pm pos : Pos} (I : Inv X pins σ H s) (hg : Gl X "range") (hm : X.mg "range" = none) (h2 : X.N[2]? = some ("many" : Str)) (hv : Vis X.env.scope "many") (hσ : σ[2]? = some (some (V.int j)))
    (j0 : 0 ≤ j) (j1 : j < 2 ^ 62) :
    wpAny (model X.prog X.w) X.A (eval (.Call (.Name "range" p) [.Name "many" pm] [] pos) X.env) (fun v s1 => wpAny (model X.prog X.w) X.A (pyIter v) (fun itv s2 => ∃ it : Addr, itv = .ref it ∧ X.env.locals < it ∧ (∀ p ∈ X.pn ++ pins, p.1 < it) ∧
      IsRangeIter s2.heap it (0 + ((0 : Nat) : Int) * 1) ((j.toNat : Int) - ((0 : Nat) : Int)) 1 ∧ Inv X pins σ H s2) X.xe s1) X.xe s := by
  refine Call_ (ld_blt I hg hm boot_range (PyProof.Rows.callWith_type1 (thn ((pa_cons (pe_var (i := 2) h2 hv) pa_nil).run pos pins s σ H (fun vs H1 => vs = [.int j] ∧ H1 = H) I ⟨_, hσ, rfl, rfl⟩) fun us s1 ⟨vs, H1, I1, r1, q1⟩ => ?_) rfl rfl))
  obtain ⟨e1, e2⟩ := q1
  subst e1
  subst e2
  cases r1 with
  | cons r rr =>
    cases rr
    obtain ⟨t, rfl⟩ := r
    refine call_range_1 ?_
    refine wpAny_pyIter_range (IsRange.new ..) (small_one (by omega) (by omega) (by omega) j1) ?_
    have I2 : Inv X pins σ H1 { s1 with heap := s1.heap.push { cls := .type "range", data := .fields #[.int 0 s1.toks, .int j t, .int 1 (s1.toks + 1)] }, toks := s1.toks + 1 + 1 } := I1.kept (t' := s1.toks + 1 + 1) fun b o e => Heap.get?_push_of_some _ e
    have hsz : s1.heap.objs.size < (s1.heap.push { cls := .type "range", data := .fields #[.int 0 s1.toks, .int j t, .int 1 (s1.toks + 1)] }).objs.size := by rw [Heap.size_push]; exact Nat.lt_succ_self _
    refine ⟨_, rfl, Nat.lt_trans I1.lt hsz, fun p hp => Nat.lt_trans (Heap.lt_size (I1.pin p hp).1) hsz, ?_, I2.kept (t' := s1.toks + 1 + 1) fun b o e => Heap.get?_push_of_some _ e⟩
    have e1 : (0 : Int) + ((0 : Nat) : Int) * 1 = 0 := by simp
    have e2 : ((j.toNat : Nat) : Int) - ((0 : Nat) : Int) = Builtin.Range.rangeSize 0 j 1 := by rw [rangeSize_one]; split <;> omega
    rw [e1, e2]
    exact Heap.get?_push_size _ rfl

/-- what a call of path gives: a generator that has not begun; what its first wake comes to, from any state that has all that stood there -/
structure PMade (P : Program) (w : World) (k : Nat) (outer : List Env) (H : Hp) (sC : Shared) (N : Nat) (size code : Int) (a : Addr) (g : Nat) (c : Code) (env : Env) (s' : Shared) : Prop where
  T : PEnv env
  nG : env.locals ≠ mainGlobals
  young : sC.heap.objs.size ≤ env.locals
  La : env.locals < a
  aE : a + 1 = s'.heap.objs.size
  gen : s'.heap.IsGen a g
  fresh : s'.gens[g]? = some (.fresh c)
  os : s'.os = sC.os
  bare : AllBare s'.gens
  lim : s'.heap.NoLimit
  keep : ∀ b o, sC.heap.get? b = some o → s'.heap.get? b = some o
  wake : ∀ (A : Around) (s2 : Shared) (xs : List (Addr × Obj)), Room k A → A.frames = some outer → (∀ b o, s'.heap.get? b = some o → s2.heap.get? b = some o) → s2.os = sC.os → AllBare s2.gens → (∀ p ∈ xs, s2.heap.get? p.1 = some p.2 ∧ a < p.1 ∧ ∀ v, p.2.data ≠ .cell v) →
     SegG (model P w) A (FstP P w A env N size code (a :: xs.map (·.1)) (fun s3 => s3.os = sC.os ∧ AllBare s3.gens ∧ Un (frs outer) [] H H sC.heap s3.heap ∧ HOk P w H s3.heap ∧ s3.heap.IsGen a g ∧ s3.heap.NoLimit ∧ ∀ p ∈ xs, s3.heap.get? p.1 = some p.2)) c ((model P w).den c) [] s2
def E00 : XK := fun _ _ _ => False
section
variable {P : Program} {w : World} {K : PySem.W.Frag} {mg : Str → Option Value} {base : Heap}
/-- path's names -/
abbrev pN : List Str := ["code", "size", "many", "slot", "push", "_"]
abbrev pP : List Str := ["code", "size", "many"]
structure PSc (sc : Scope) : Prop where
  S : GScope pN pP sc
  co : sc.isCoroutine = false
  slot : sc.names.lookup ("slot" : Str) = some NameKind.local
  push : sc.names.lookup ("push" : Str) = some NameKind.local
  size : sc.names.lookup ("size" : Str) = some NameKind.local
  many : sc.names.lookup ("many" : Str) = some NameKind.local
  low : sc.names.lookup ("_" : Str) = some NameKind.local
  share : sc.names.lookup ("PUSH_SHARE" : Str) = some NameKind.globalImplicit
  range : sc.names.lookup ("range" : Str) = some NameKind.globalImplicit
theorem PSc.env {sc : Scope} (S : PSc sc) {q : Str} {L f : Addr} {cd : Value} : PEnv (envOfC q sc L f cd) := ⟨S.S.kind, S.co, rfl, S.slot, S.push, S.size, S.low, S.share⟩
theorem path_call {k : Nat} {f : Addr} {name qual : Str} {params : Arguments} {l5 : List Stmt} {scope : Scope} {dV kV doc pm cdv ct oc : Value} {an od : Option Addr} {osl : Array (Option Value)} {tsh : Tok}
    {pt pr pmm pcl pf p0 p0' p0'' p1 p2 p3 p4 p5 q1 q2 q3 q4 q5 q6 q7 q8 q9 q10 q11 : Pos} {k1 k2 : Nat} {size code many : Int}
    (lk : K.lookup f = some ⟨oc, od, .func (PySem.W.fnOf name qual params (l5 ++ [.For (.Name "_" pt) (.Call (.Name "range" pr) [.Name "many" pmm] [] pcl) (loopBody p0 p0' p0'' p1 p2 p3 p4 p5 q1 q2 q3 q4 q5 q6 q7 q8 q9 q10 q11 k1 k2) [] pf]) scope dV kV doc pm an cdv ct), osl⟩)
    (hcd : PySem.W.codeIn K cdv qual = true) (S : PSc scope) (msh : mg "PUSH_SHARE" = some (.int 32 tsh)) (mra : mg "range" = none) (hm0 : 0 ≤ many) (hm1 : many < 2 ^ 62) (hz : size ≠ 0)
    (h5 : ∀ (A : Around) (outer : List Env) (s : Shared) (H : Hp) (pn : List (Addr × Obj)), Room k (A.deeper (envOfC qual scope s.heap.objs.size f cdv)) →
      ∃ t, PSs (gcxOf P w K mg base pN qual scope f cdv A outer s H E00 pn) l5 t ∧ t { nx := fun σ' H' => σ' = [some (.int code), some (.int size), some (.int many), some (.int (code.fmod size)), some (.int code), none] ∧ H' = H, rt := fun _ _ => False } (start pN [.int code, .int size, .int many]) H)
    {A : Around} {outer : List Env} {s : Shared} {H : Hp} {args : Args} {us : List Value} (hr : Room (k + 1) A) (e0 : Env0 P w K mg base A outer s H)
    (hb : BindsTo s (PySem.W.fnOf name qual params (l5 ++ [.For (.Name "_" pt) (.Call (.Name "range" pr) [.Name "many" pmm] [] pcl) (loopBody p0 p0' p0'' p1 p2 p3 p4 p5 q1 q2 q3 q4 q5 q6 q7 q8 q9 q10 q11 k1 k2) [] pf]) scope dV kV doc pm an cdv ct) args (pP.zip us))
    (r : Vals [.int code, .int size, .int many] us) :
    codeAny (model P w) A (.call (.ref f) args) (fun r s' => match r with | .ok (.ret u) => ∃ a g c env, u = .ref a ∧ PMade P w (k + 1) outer H s many.toNat size code a g c env s' | _ => False) s := by
  have hl : [V.int code, .int size, .int many].length = pP.length := rfl
  have KX : K.In s.heap := e0.mod.kin.keeps fun b o e => (e0.bs b o e).1
  have lim : s.heap.NoLimit := e0.mod.nolimit.keeps fun b o e => (e0.bs b o e).1
  have hkind : ∀ y ∈ pP.zip us, scope.names.lookup y.1 = some .local ∨ (scope.names.lookup y.1 = some .cell ∧ ((cellsFrom (s.heap.objs.size + 1) scope.names []).lookup y.1).isSome = true) := fun ⟨n, v⟩ hy => by
    rcases S.S.par n (List.of_mem_zip hy).1 with q | q
    · exact .inl q
    · exact .inr ⟨q, PySem.W.cellsFrom_some _ _ _ (.inl q)⟩
  refine codeAny_call_generator hr.depth (KX _ _ lk) rfl S.S.co S.S.gen rfl (PySem.W.codeRec_of KX hcd) (hb _ _ _ _ ?_)
  refine wpAny_newFunctionEnv_cells S.S.kind hkind fun env he s1 x => ?_
  subst he
  have lim1 : s1.heap.NoLimit := lim.keeps x.toInCall.keep
  refine ⟨lim1, ?_⟩
  obtain ⟨h1, tk, es1, hk1⟩ := x.done
  have os1 : s1.os = s.os := by rw [es1]
  have gen1 : s1.gens = s.gens := by rw [es1]
  have lt1 : s.heap.objs.size < s1.heap.objs.size := x.toInCall.ns.lt
  have sz1 : s.heap.objs.size ≤ s1.heap.objs.size := Nat.le_of_lt lt1
  have kp1 : ∀ b o, s.heap.get? b = some o → s1.heap.get? b = some o := x.toInCall.keep
  have main : ∀ (go : Obj) (nm' qn : Value) (tk2 : Nat), go.cls = .type "generator" → go.data = .fields #[.int s1.gens.size 0, nm', qn] → go.slots = #[] → (∀ h : Heap, (h.push go).get? h.objs.size = some go) →
      PMade P w (k + 1) outer H s many.toNat size code s1.heap.objs.size s1.gens.size (.func (l5 ++ [.For (.Name "_" pt) (.Call (.Name "range" pr) [.Name "many" pmm] [] pcl) (loopBody p0 p0' p0'' p1 p2 p3 p4 p5 q1 q2 q3 q4 q5 q6 q7 q8 q9 q10 q11 k1 k2) [] pf]) (envOfC qual scope s.heap.objs.size f cdv)) (envOfC qual scope s.heap.objs.size f cdv)
        { s1 with gens := s1.gens.push (.fresh (.func (l5 ++ [.For (.Name "_" pt) (.Call (.Name "range" pr) [.Name "many" pmm] [] pcl) (loopBody p0 p0' p0'' p1 p2 p3 p4 p5 q1 q2 q3 q4 q5 q6 q7 q8 q9 q10 q11 k1 k2) [] pf]) (envOfC qual scope s.heap.objs.size f cdv))), toks := tk2, heap := s1.heap.push go } := by
    intro go nm' qn tk2 hgc hgd0 hgs hgp
    have hgen : ∀ h : Heap, h.get? s1.heap.objs.size = some go → h.IsGen s1.heap.objs.size s1.gens.size := fun h e => ⟨go, nm', qn, e, hgc, hgd0, hgs⟩
    have hpushed : (s1.heap.push go).get? s1.heap.objs.size = some go := hgp _
    have hG : mainGlobals < s.heap.objs.size := by
      obtain ⟨o, es, ep, ho, _⟩ := e0.mod.glob
      exact Heap.lt_size (e0.bs _ o ho).1
    have T : PEnv (envOfC qual scope s.heap.objs.size f cdv) := S.env
    have hint : interactive (envOfC qual scope s.heap.objs.size f cdv) = false := by
      unfold interactive
      rw [show (envOfC qual scope s.heap.objs.size f cdv).scope.kind = .function from S.S.kind]
      rfl
    have nG : (envOfC qual scope s.heap.objs.size f cdv).locals ≠ mainGlobals := Nat.ne_of_gt hG
    refine ⟨T, nG, Nat.le_refl _, lt1, ?_, hgen _ hpushed, Array.getElem?_push_size .., os1, ?_, lim1.keeps fun b o e => Heap.get?_push_of_some _ e, fun b o e => Heap.get?_push_of_some _ (kp1 b o e), ?_⟩
    · show _ = (s1.heap.push _).objs.size
      rw [Heap.size_push]
    · exact AllBare.push (by rw [gen1]; exact e0.bare) rfl
    intro Aw s2 xs hrw hfr hk2 hos hba hxs
    have e0w : Env0 P w K mg base Aw outer s H := ⟨hfr, e0.mod, e0.bs, e0.bsz, e0.funs, e0.frf, e0.hok, e0.bare⟩
    obtain ⟨t, ht, hq⟩ := h5 Aw outer s H [(s1.heap.objs.size, go)] (hrw.deeper _)
    have I1 : Inv (gcxOf P w K mg base pN qual scope f cdv Aw outer s H E00 []) [] (start pN [.int code, .int size, .int many]) H s1 := inv_startG S.S hrw.hd e0w hl r x
    have kp2 : ∀ b o, s1.heap.get? b = some o → s2.heap.get? b = some o := fun b o e => hk2 b o (Heap.get?_push_of_some _ e)
    have I2 : Inv (gcxOf P w K mg base pN qual scope f cdv Aw outer s H E00 []) [] (start pN [.int code, .int size, .int many]) H s2 :=
      I1.call' (ch := []) (hos.trans os1.symm) (Un.kept kp2) (I1.hok.kept kp2) hba fun b z => by simp at z
    have hea : s2.heap.get? s1.heap.objs.size = some go := hk2 s1.heap.objs.size go hpushed
    have hgd : ∀ v, go.data ≠ .cell v := fun v q => by rw [hgd0] at q; cases q
    have I3 : Inv (gcxOf P w K mg base pN qual scope f cdv Aw outer s H E00 [(s1.heap.objs.size, go)]) xs (start pN [.int code, .int size, .int many]) H s2 := Inv.pinnedG I2 fun p hp => by
      rcases List.mem_append.mp hp with z | z
      · rw [List.mem_singleton.mp z]
        exact ⟨hea, I1.hok.fresh (Nat.le_refl _), Nat.ne_of_gt lt1, I1.nofs (Nat.le_refl _), hgd⟩
      · obtain ⟨x1, x2, x3⟩ := hxs p z
        exact ⟨x1, I1.hok.fresh (Nat.le_of_lt x2), Nat.ne_of_gt (Nat.lt_trans lt1 x2), I1.nofs (Nat.le_of_lt x2), x3⟩
    -- the state's own word
    have word : ∀ {σ' : L2.St} {s3 : Shared}, Inv (gcxOf P w K mg base pN qual scope f cdv Aw outer s H E00 [(s1.heap.objs.size, go)]) xs σ' H s3 →
        (s3.os = s.os ∧ AllBare s3.gens ∧ Un (frs outer) [] H H s.heap s3.heap ∧ HOk P w H s3.heap ∧ s3.heap.IsGen s1.heap.objs.size s1.gens.size ∧ s3.heap.NoLimit ∧ ∀ p ∈ xs, s3.heap.get? p.1 = some p.2) := fun {σ' s3} J =>
      ⟨J.os, J.bare, J.base, J.hok, hgen _ (J.pin (s1.heap.objs.size, go) (List.mem_append_left _ (List.mem_singleton.mpr rfl))).1, J.nolimit, fun p hp => (J.pin p (List.mem_append_right _ hp)).1⟩
    have fall : ∀ (e : Value) (s' : Shared), (gcxOf P w K mg base pN qual scope f cdv Aw outer s H E00 [(s1.heap.objs.size, go)]).xe e s' → ∀ Φ : End → Shared → Prop, SegG (model P w) Aw Φ (.func (l5 ++ [.For (.Name "_" pt) (.Call (.Name "range" pr) [.Name "many" pmm] [] pcl) (loopBody p0 p0' p0'' p1 p2 p3 p4 p5 q1 q2 q3 q4 q5 q6 q7 q8 q9 q10 q11 k1 k2) [] pf]) (envOfC qual scope s.heap.objs.size f cdv))
        (Sem.wrap (fun _ => .raise e) .raise id id (leaving (envOfC qual scope s.heap.objs.size f cdv) e)) [] s' := fun e s' hx Φ => by
      refine sg_wrap ?_
      rw [over_func]
      refine wpAny_mono (show wpAny (model P w) (Aw.deeper (envOfC qual scope s.heap.objs.size f cdv)) (leaving (envOfC qual scope s.heap.objs.size f cdv) e) (fun _ s'' => CX P w outer H s E00 e s'' ∧ ∀ p ∈ [(s1.heap.objs.size, go)], s''.heap.get? p.1 = some p.2) (fun _ _ => False) s' from hx) (fun _ s'' q => ?_) fun _ s'' q => q.elim
      obtain ⟨⟨_, _, _, _, _, _, _, _, _, _, _, _, z⟩, _⟩ := q
      exact z.elim
    refine sg_func (sg_app (sg_wrap ?_))
    rw [over_func]
    refine wpAny_mono (ht.run xs s2 _ H _ I3 hq) (fun fl s3 hs => ?_) fun e s' hx => fall e s' hx _
    cases fl with
    | brk => obtain ⟨_, _, _, q⟩ := hs; exact False.elim q
    | cont => obtain ⟨_, _, _, q⟩ := hs; exact False.elim q
    | ret u => obtain ⟨_, _, _, _, _, q⟩ := hs; exact False.elim q
    | next =>
      obtain ⟨σ3, H3, J3, e3, e4⟩ := hs
      subst e3
      subst e4
      refine sg_execs_cons (sg_For (fun _ => rfl) ?_)
      rw [over_func]
      have hvis : Vis scope ("many" : Str) := .inl S.many
      refine wpAny_mono (run_range (j := many) (pm := pmm) (p := pr) (pos := pcl) J3 S.range mra rfl hvis rfl hm0 hm1) (fun v s4 h4 => wpAny_mono h4 (fun itv s5 h5' => ?_) fun e s' hx => fall e s' hx _) fun e s' hx => fall e s' hx _
      obtain ⟨it, rfl, hLit, hpit, hrg, J5⟩ := h5'
      have hLit' : s.heap.objs.size < it := hLit
      have hait : s1.heap.objs.size < it := hpit (s1.heap.objs.size, go) (List.mem_append_left _ (List.mem_singleton.mpr rfl))
      have hlows : ∀ b ∈ s1.heap.objs.size :: xs.map (·.1), b < it := fun b hb => by
        rcases List.mem_cons.mp hb with z | z
        · rw [z]; exact hait
        · obtain ⟨p, hp, rfl⟩ := List.mem_map.mp z
          exact hpit p (List.mem_append_right _ hp)
      have hit0 : it ≠ (envOfC qual scope s.heap.objs.size f cdv).locals := Nat.ne_of_gt hLit'
      have hitG : it ≠ mainGlobals := Nat.ne_of_gt (Nat.lt_trans hG hLit')
      have fm5 : Fm (envOfC qual scope s.heap.objs.size f cdv) s5.heap size (code.fmod size) code := by
        obtain ⟨m, hn, hl5⟩ := J5.loc
        have get : ∀ (i : Nat) (x : Str) (n : Int), pN[i]? = some x → scope.names.lookup x = some NameKind.local → ([some (.int code), some (.int size), some (.int many), some (.int (code.fmod size)), some (.int code), none] : L2.St)[i]? = some (some (.int n)) → ∃ t, m x = some (.int n t) := fun i x n h1 h2 h3 => by
          obtain ⟨u, ru, lu⟩ := hl5 i x _ h1 h3 (.inl h2)
          obtain ⟨t, rfl⟩ := ru
          rcases lu with ⟨_, hm⟩ | ⟨hk, _⟩
          · exact ⟨t, hm⟩
          · have hk' : scope.names.lookup x = some .cell ∨ scope.names.lookup x = some .free := hk
            rw [h2] at hk'
            rcases hk' with z | z <;> cases z
        exact ⟨⟨m, hn, get 3 _ _ rfl S.slot rfl, get 4 _ _ rfl S.push rfl, get 1 _ _ rfl S.size rfl⟩, ⟨mg, J5.mod.glob.keeps J5.bk, tsh, msh⟩⟩
      intro pp
      have ltL : ∀ b o, s.heap.get? b = some o → b ≠ s.heap.objs.size ∧ b ≠ it := fun b o e => ⟨Nat.ne_of_lt (Heap.lt_size e), Nat.ne_of_lt (Nat.lt_trans (Heap.lt_size e) hLit')⟩
      refine path_first T hint nG hit0 hitG hz hlows (fun sa sb hja hm => ?_) rfl ?_ (fun sa hN hja => ?_) (fun s₀ sa hja => ?_) ⟨fm5, hrg⟩ (word J5)
      · obtain ⟨h', tk', rfl, hk⟩ := hm
        obtain ⟨a1, a2, a3, a4, a5, a6, a7⟩ := hja
        have hLn : H3 s.heap.objs.size = none := e0.hok.fresh (Nat.le_refl _)
        have hIn : H3 it = none := e0.hok.fresh (Nat.le_of_lt hLit')
        have nt : ∀ b u, H3 b = some u → b ≠ s.heap.objs.size ∧ b ≠ it := fun b u e => ⟨ne_of_none e hLn, ne_of_none e hIn⟩
        have hcS : cStatics < s.heap.objs.size := let ⟨_, hn, _⟩ := lim; hn.lt
        refine ⟨a1, a2, ⟨fun b o e n hb hx => ?_, fun b o e n hb hx => ?_, a3.free, fun b o e hx => ?_, a3.tups, a3.frzs, a3.tbls⟩, fun b u e => ?_, ?_, ?_, fun p hp => hk p.1 p.2 (Nat.ne_of_gt (Nat.lt_trans lt1 (hxs p hp).2.1)) (Nat.ne_of_lt (hlows p.1 (List.mem_cons_of_mem _ (List.mem_map.mpr ⟨p, hp, rfl⟩)))) (a7 p hp)⟩
        · exact hk b o (ltL b o e).1 (ltL b o e).2 (a3.keep b o e n hb hx)
        · obtain ⟨sl', e'⟩ := a3.slot b o e n hb hx
          exact ⟨sl', hk b _ (ltL b o e).1 (ltL b o e).2 e'⟩
        · obtain ⟨o', e'⟩ := a3.there b o e hx
          exact ⟨o', hk b _ (ltL b o e).1 (ltL b o e).2 e'⟩
        · refine (a4 b u e).stay (fun c v hc q => ?_) (fun _ z => z) fun _ _ z => z
          rcases hc with hc | hc
          · rw [hc] at q ⊢
            exact hk b v (nt b u e).1 (nt b u e).2 q
          · exact hk c v (nt c _ hc).1 (nt c _ hc).2 q
        · obtain ⟨o, n1, n2, ho, z⟩ := a5
          exact ⟨o, n1, n2, hk _ o (Nat.ne_of_gt lt1) (Nat.ne_of_lt hait) ho, z⟩
        · obtain ⟨mc, hns, hnn⟩ := a6
          exact ⟨mc, hns.at' fun o e => hk _ o (Nat.ne_of_lt hcS) (Nat.ne_of_lt (Nat.lt_trans hcS hLit')) e, hnn⟩
      · exact hrw.hd
      · exact sg_end (.ok (.ret .none)) ⟨rfl, hN, hja⟩
      · exact seg_end (.ok (.ret .none)) ⟨rfl, rfl, hja⟩
  exact ⟨_, _, _, _, rfl, main _ _ _ _ rfl rfl rfl fun h => Heap.get?_push_size _ rfl⟩
end
end Pth
set_option Elab.async false
set_option linter.all false
set_option maxRecDepth 100000
set_option maxHeartbeats 1000000
/-! Pf: a for over path(..), its body by a judgement; list(path(..)) -/
namespace Pth
open PySem PySem.Spec PyProof.Rows L2 GenW
open Sem (wp)
section
variable {M : Model}
theorem resume_first {A : Around} {Φ : End → Shared → Prop} {E : Value → Shared → Prop} {s : Shared} {g : Nat} {c : Code} {l : List Value} {α : Type} {k : GenResult → Sem α} {Q : α → Shared → Prop} (hg : s.gens[g]? = some (.fresh c))
    (hgo : SegG M A Φ c (M.den c) [] (s.setGen g .running))
    (hR : ∀ e s₁, Φ e s₁ → e.quiet = true ∧ wpAny M A (k e.result) Q E (s₁.setGen g e.genState)) : wpAny M A (.resume g (.send .none) l k) Q E s := by
  intro Γ p hΓ
  rw [Sem.wp_resume]
  obtain ⟨e₁, s₁, hr, he⟩ := hgo (Γ.wake c p) p rfl (hΓ.wake c p)
  obtain ⟨hq, hw⟩ := hR e₁ s₁ he
  exact ⟨_, _, by unfold Wakes; rw [hg]; exact ⟨e₁, s₁, hr, hq, rfl, rfl⟩, hw Γ p hΓ⟩
theorem resume_later {A : Around} {R : GenEnd} {Y : Protocol} {n : Nat} {E : Value → Shared → Prop} {s : Shared} {g : Nat} {k₀ : Resume → Sem PySem.Fin} {l₀ : List Value} {c₀ : Code} {p₀ : Pos} {fs₀ : List Frame} {cl₀ : Bool} {r : Resume} {l : List Value} {α : Type} {k : GenResult → Sem α} {Q : α → Shared → Prop}
    (hg : s.gens[g]? = some (.suspended k₀ l₀ c₀ p₀ fs₀ cl₀))
    (hgo : Seg M A R Y n (s.setGen g .running) c₀ (k₀ r) fs₀ (s.setGen g .running))
    (hR : ∀ e s₁, SegEnd R Y n (Seg.next M A R Y n) (s.setGen g .running) e s₁ → e.quiet = true ∧ wpAny M A (k e.result) Q E (s₁.setGen g e.genState)) : wpAny M A (.resume g r l k) Q E s := by
  intro Γ p hΓ
  rw [Sem.wp_resume]
  obtain ⟨e₁, s₁, hr, he⟩ := seg_iff.mp hgo (Γ.wake c₀ p) p₀ rfl (hΓ.wake c₀ p)
  obtain ⟨hq, hw⟩ := hR e₁ s₁ he
  exact ⟨_, _, by unfold Wakes; rw [hg]; exact ⟨e₁, s₁, hr, hq, rfl, rfl⟩, hw Γ p hΓ⟩
end
section
variable {P : Program} {w : World} {A : Around} {E : Value → Shared → Prop} {s : Shared}
theorem next_first {a : Addr} {g : Nat} {c : Code} {Φ : End → Shared → Prop} {Q : Option Value → Shared → Prop} (hh : A.handled = none) (hl : s.heap.NoLimit) (hroom : A.depth < recursionLimit) (hg : s.heap.IsGen a g) (hgs : s.gens[g]? = some (.fresh c))
    (hgo : SegG (model P w) A.in1 Φ c ((model P w).den c) [] (s.setGen g .running))
    (hR : ∀ e s₁, Φ e s₁ → (e = .ret (.ok (.ret .none)) ∧ ∀ h', (∀ b o, s₁.heap.get? b = some o → h'.get? b = some o) → Q none { s₁.setGen g .finished with heap := h' }) ∨
      ∃ v gd l k c' p' fs, e = .susp v gd l k c' p' fs ∧ e.quiet = true ∧ Q (some v) (s₁.setGen g e.genState)) :
    wpAny (model P w) A (pyNext (.ref a)) Q E s := by
  unfold pyNext
  refine wpAny_bind (wpAny_attempt (wpAny_callSpecial?_slot (name := Str.ofString "__next__") hg.typeIs slot_gen_next
    (wpAny_call_entry slot_gen_next hg.typeIs entry_gen_next ?_ (args_gen_next _))))
  show wpAny _ A.in1 (Builtin.Generator.genWake (.ref a) (.send .none)) _ _ s
  unfold Builtin.Generator.genWake
  refine wpAny_bind (wpAny_holding (wpAny_genNumber hg (wpAny_bind (wpAny_genState hgs ?_))))
  refine wpAny_bind (wpAny_roomToWake hl hroom ?_)
  show wpAny _ A.in1 (.resume g (.send .none) [] _) _ _ s
  refine resume_first hgs hgo fun e s₁ he => ?_
  rcases hR e s₁ he with ⟨rfl, h⟩ | ⟨v, gd, l, k, c', p', fs, rfl, hq, h⟩
  · refine ⟨rfl, ?_⟩
    show wpAny _ A.in1 (newExc (.type "StopIteration") [] >>= _) _ _ _
    refine wpAny_bind ?_
    simp only [newExc, newTuple]
    refine wpAny_bind (wpAny_newObj_type ?_ (by size_fits))
    refine wpAny_bind (m := firstArgMember _ _) (wpAny_of_eq (a := Value.none) (by first | rfl | (simp only [firstArgMember]; rfl)) ?_)
    refine wpAny_newObj_type ?_ (by size_fits)
    simp only [raiseNew]
    refine wpAny_bind (wpAny_bind (wpAny_handled ?_))
    first | rw [show A.in1.handled = none from hh] | rw [hh]
    refine wpAny_throw ?_
    refine wpAny_bind (wpAny_isInstance (T := "StopIteration") (b := true) ⟨_, Heap.get?_push_size _ rfl, rfl⟩ isSubtype_stop ?_)
    exact wpAny_pure (h _ fun b o hb => Heap.get?_push_of_some _ (Heap.get?_push_of_some _ hb))
  · exact ⟨hq, wpAny_pure ⟨v, rfl, wpAny_pure h⟩⟩
theorem next_later {a : Addr} {g n : Nat} {R : GenEnd} {Y : Protocol} {k₀ : Resume → Sem PySem.Fin} {l₀ : List Value} {c₀ : Code} {p₀ : Pos} {fs₀ : List Frame} {cl₀ : Bool} {Q : Option Value → Shared → Prop} (hh : A.handled = none) (hl : s.heap.NoLimit) (hroom : A.depth < recursionLimit) (hg : s.heap.IsGen a g)
    (hgs : s.gens[g]? = some (.suspended k₀ l₀ c₀ p₀ fs₀ cl₀))
    (hgo : Seg (model P w) A.in1 R Y n (s.setGen g .running) c₀ (k₀ (.send .none)) fs₀ (s.setGen g .running))
    (hR : ∀ r s₁, R n (s.setGen g .running) r s₁ → r = .ok (.ret .none) ∧ ∀ h', (∀ b o, s₁.heap.get? b = some o → h'.get? b = some o) → Q none { s₁.setGen g .finished with heap := h' })
    (hY : ∀ v gd l k c' p' fs s₁, (End.susp v gd l k c' p' fs).quiet = true → Y (n - 1) (s.setGen g .running) v s₁ (fun r s'' => Seg.next (model P w) A.in1 R Y n c' (k r) fs s'') → Q (some v) (s₁.setGen g (End.susp v gd l k c' p' fs).genState)) :
    wpAny (model P w) A (pyNext (.ref a)) Q E s := by
  unfold pyNext
  refine wpAny_bind (wpAny_attempt (wpAny_callSpecial?_slot (name := Str.ofString "__next__") hg.typeIs slot_gen_next
    (wpAny_call_entry slot_gen_next hg.typeIs entry_gen_next ?_ (args_gen_next _))))
  show wpAny _ A.in1 (Builtin.Generator.genWake (.ref a) (.send .none)) _ _ s
  unfold Builtin.Generator.genWake
  refine wpAny_bind (wpAny_holding (wpAny_genNumber hg (wpAny_bind (wpAny_genState hgs ?_))))
  refine wpAny_bind (wpAny_roomToWake hl hroom ?_)
  show wpAny _ A.in1 (.resume g (.send .none) [] _) _ _ s
  refine resume_later hgs hgo fun e s₁ he => ?_
  cases e with
  | ret r =>
    obtain ⟨rfl, h⟩ := hR r s₁ he
    refine ⟨rfl, ?_⟩
    show wpAny _ A.in1 (newExc (.type "StopIteration") [] >>= _) _ _ _
    refine wpAny_bind ?_
    simp only [newExc, newTuple]
    refine wpAny_bind (wpAny_newObj_type ?_ (by size_fits))
    refine wpAny_bind (m := firstArgMember _ _) (wpAny_of_eq (a := Value.none) (by first | rfl | (simp only [firstArgMember]; rfl)) ?_)
    refine wpAny_newObj_type ?_ (by size_fits)
    simp only [raiseNew]
    refine wpAny_bind (wpAny_bind (wpAny_handled ?_))
    first | rw [show A.in1.handled = none from hh] | rw [hh]
    refine wpAny_throw ?_
    refine wpAny_bind (wpAny_isInstance (T := "StopIteration") (b := true) ⟨_, Heap.get?_push_size _ rfl, rfl⟩ isSubtype_stop ?_)
    exact wpAny_pure (h _ fun b o hb => Heap.get?_push_of_some _ (Heap.get?_push_of_some _ hb))
  | susp v gd l k c' p' fs =>
    obtain ⟨hq, h⟩ := he
    exact ⟨hq, wpAny_pure ⟨v, rfl, wpAny_pure (hY v gd l k c' p' fs s₁ hq h)⟩⟩
end

/-! ### the consumer -/
/-- what path takes -/
def POk (code size many : Int) : Prop := 0 ≤ code ∧ code < 4294967296 ∧ size ∈ ([8, 16, 32, 64, 128, 256, 512, 1024, 2048, 4096] : List Int) ∧ 0 ≤ many ∧ many < 2 ^ 62
/-- path, called -/
def PathDef (P : Program) (w : World) (K : PySem.W.Frag) (mg : Str → Option Value) (base : Heap) (k : Nat) (f : Addr) (fd : FuncData) : Prop :=
  ∀ {code size many : Int}, POk code size many → ∀ {A : Around} {outer : List Env} {s : Shared} {H : Hp} {args : Args} {us : List Value}, Room k A → Env0 P w K mg base A outer s H → BindsTo s fd args (pP.zip us) → Vals [.int code, .int size, .int many] us →
    codeAny (model P w) A (.call (.ref f) args) (fun r s' => match r with | .ok (.ret u) => ∃ a g c env, u = .ref a ∧ PMade P w k outer H s many.toNat size code a g c env s' | _ => False) s
section
variable {X : Cx} {pins : List (Addr × Obj)} {σ : L2.St} {H : Hp} {s : Shared}
/-- with other generators -/
theorem Inv.withG (I : Inv X pins σ H s) {G : Array GenState} (h : AllBare G) : Inv X pins σ H (Fk.gw s G) := ⟨I.ok, I.os, h, I.base, I.loc, I.cell, I.free, I.freeC, I.pin, I.hok, I.len⟩
/-- where the generator at a stands, i slots out, asleep -/
structure Asleep (X : Cx) (B : Around) (env : Env) (a : Addr) (g : Nat) (N : Nat) (size code : Int) (low : Nat) (i : Nat) (it : Addr) (H : Hp) (s : Shared) : Prop where
  lowIt : low ≤ it
  gen : s.heap.IsGen a g
  st : LSy env it N size code (i - 1) s.heap
  nT : ∀ b ∈ [a, env.locals, it], H b = none
  at_ : ∃ k l c p fs cl, s.gens[g]? = some (.suspended k l c p fs cl) ∧ cl = false ∧ ∀ s'', Slp env it s s'' → Seg (model X.prog X.w) B (RP (fun _ _ => True) env.locals it N) (YP (fun _ _ => True) env it N size code) (N - i) s'' c (k (.send .none)) fs s''
/-- at the loop's head, i slots out -/
inductive Head (X : Cx) (B : Around) (s0 : Shared) (σ0 : L2.St) (H0 : Hp) (env : Env) (a : Addr) (g : Nat) (N : Nat) (size code : Int) (low : Nat) : Nat → L2.St → Hp → Shared → Prop
  | begin : Head X B s0 σ0 H0 env a g N size code low 0 σ0 H0 s0
  | amid {i : Nat} {it : Addr} {σ : L2.St} {H : Hp} {s : Shared} : 0 < i → Asleep X B env a g N size code low i it H s → Head X B s0 σ0 H0 env a g N size code low i σ H s
/-- the slots, as they come: Pv i holds ahead of the turn i -/
def tForP (i : Nat) (ta : TA) (tb : TS) : TS := fun D σ H => ta σ H fun vs H1 => ∃ code size many : Int, vs = [.int code, .int size, .int many] ∧ POk code size many ∧ ∃ Pv : Nat → L2.St → Hp → Prop, Pv 0 σ H1 ∧
  (∀ n σ' H', n < many.toNat → Pv n σ' H' → tb { D with nx := Pv (n + 1), ct := Pv (n + 1), bk := D.nx } (σ'.set i (some (.int (sl size code n)))) H') ∧ ∀ σ' H', Pv many.toNat σ' H' → D.nx σ' H'

/-- the generator's own things have turned -/
theorem inv_mv {L it : Addr} {s' : Shared} (I : Inv X pins σ H s) (m : Mv L it s s') (f1 : FpOk X pins H L) (f2 : FpOk X pins H it) : Inv X pins σ H s' := by
  obtain ⟨h', tk, rfl, k⟩ := m
  obtain ⟨a0, a1, a2, a3, a4, a5⟩ := f1
  obtain ⟨b0, b1, b2, b3, b4, b5⟩ := f2
  have ne : ∀ b, b ∉ [L, it] → b ≠ L ∧ b ≠ it := fun b hb => ⟨fun z => hb (by rw [z]; simp), fun z => hb (by rw [z]; simp)⟩
  have nt : ∀ b u, H b = some u → b ≠ L ∧ b ≠ it := fun b u e => ⟨ne_of_none e a0, ne_of_none e b0⟩
  refine I.step (g' := s.gens) (d' := s.drawn) (ch := [L, it]) (fun b hb => ?_) (fun b o _ _ hc e _ => k b o (ne b hc).1 (ne b hc).2 e) (fun b o _ _ hc e _ => ⟨o.slots, k b o (ne b hc).1 (ne b hc).2 e⟩) (fun _ _ _ _ n => n)
    (fun b o hc e => ⟨o, k b o (ne b hc).1 (ne b hc).2 e⟩) (fun _ _ e => e) (fun _ _ _ e => e) (fun b ps e => ⟨#[], by rw [e]; simp⟩) (fun m hm => ?_) (fun b u e => ?_) I.bare
  · rcases List.mem_cons.mp hb with e | hb
    · rw [e]; exact ⟨a3, a1, a4, a5⟩
    · rw [List.mem_singleton.mp hb]; exact ⟨b3, b1, b4, b5⟩
  · obtain ⟨o, es, ep, ho, r⟩ := hm
    exact ⟨o, es, ep, k _ o (Ne.symm a1) (Ne.symm b1) ho, r⟩
  · refine (I.hok b u e).stay (fun c v hc q => ?_) (fun _ q => q) fun _ _ q => q
    rcases hc with z | z
    · rw [z] at q ⊢
      exact k b v (nt b u e).1 (nt b u e).2 q
    · exact k c v (nt c _ z).1 (nt c _ z).2 q
theorem turn_body {B : Around} {env : Env} {a g : Nat} {N : Nat} {size code : Int} {low : Nat} {i ix : Nat} {it : Addr} {x : Str} {px : Pos} {body : List Stmt} {tb : TS} {D : Ends} {N' : L2.St → Hp → Prop} {v : V} {u : Value} {E : Value → Shared → Prop}
    (I : Inv X pins σ H s) (hA : Asleep X B env a g N size code low i it H s) (yg : ∀ b ∈ [a, env.locals, it], ∀ H' : Hp, H' b = none → FpOk X pins H' b) (hN : X.N.Nodup) (hi : X.N[ix]? = some x) (hx : Loc X.env.scope x) (hf : X.fn x = true ∨ X.env.scope.names.lookup x = some .local)
    (hbd : PSs X.nox body tb) (rv : RelV v u) (ht : tb { D with nx := N', ct := N', bk := D.nx } (σ.set ix (some v)) H) :
    wpAny (model X.prog X.w) X.A (assign (.Name x px) X.env u) (fun _ s6 => wpAny (model X.prog X.w) X.A (execs body X.env) (fun f s7 => match f with
      | .next | .cont => ∃ σ7 H7, Inv X pins σ7 H7 s7 ∧ N' σ7 H7 ∧ Asleep X B env a g N size code low i it H7 s7
      | .brk => ∃ σ7 H7, Inv X pins σ7 H7 s7 ∧ D.nx σ7 H7
      | .ret u => ∃ v σ7 H7, Inv X pins σ7 H7 s7 ∧ RelV v u ∧ D.rt v H7) E s6) E s := by
  obtain ⟨hlow, hgen, hst, hnT, ⟨k, l, c, p, fs, cl, hgs, hcl, hsl⟩⟩ := hA
  have R := Fk.rel_faked s.gens
  have bF : AllBare (Fk.faked s.gens) := Fk.bare_faked I.bare
  have I5 : Inv X pins σ H (Fk.gw s (Fk.faked s.gens)) := Inv.withG I bF
  obtain ⟨mm, hmm, _⟩ := hst.fm.ns
  have hob : ∀ b ∈ [a, env.locals, it], ∃ o, s.heap.get? b = some o ∧ ∀ v, o.data ≠ .cell v := fun b hb => by
    rcases List.mem_cons.mp hb with e | hb
    · rw [e]
      obtain ⟨o, n1, n2, ho, _, hd, _⟩ := hgen
      exact ⟨o, ho, fun v z => by rw [hd] at z; cases z⟩
    · rcases List.mem_cons.mp hb with e | hb
      · rw [e]
        obtain ⟨o, es, ep, ho, hd, _⟩ := hmm
        exact ⟨o, ho, fun v z => by rw [hd] at z; cases z⟩
      · rw [List.mem_singleton.mp hb]
        exact ⟨_, hst.rg, fun v z => by
          have z' : Data.fields _ = Data.cell v := z
          cases z'⟩
  have Ip : Inv X (pins ++ pinsAt [a, env.locals, it] s.heap) σ H (Fk.gw s (Fk.faked s.gens)) := I5.pinned (fun b hb => yg b hb H (hnT b hb)) hob
  have hbare : ∀ i x, Fk.sleepers s.gens i = some x → x.bare = true := Fk.sleepers_bare I.bare
  -- over the replaced ones
  have h1 : wpAny (model X.prog X.w) X.A (assign (.Name x px) X.env u) (fun _ s6 => wpAny (model X.prog X.w) X.A (execs body X.env) (SP X.nox (pins ++ pinsAt [a, env.locals, it] s.heap) { D with nx := N', ct := N', bk := D.nx }) (fun _ _ => False) s6) (fun _ _ => False) (Fk.gw s (Fk.faked s.gens)) := by
    refine wpAny_assign_Name (store_ok Ip hN hi hx rv (fun s6 I6 => ?_) hf)
    exact hbd.run _ s6 _ H _ (I6.wish _) ht
  have h2 := Fk.wpAny_fk (G := s.gens) R h1
  refine wpAny_mono h2 (fun _ s6 h6 => ?_) fun _ _ ⟨_, _, z⟩ => z.elim
  obtain ⟨G0, R0, h6⟩ := h6
  have h7 := Fk.wpAny_fk (s := Fk.gw s6 G0) (G := s6.gens) R0 h6
  refine wpAny_mono h7 (fun f s7 q7 => ?_) fun _ _ ⟨_, _, z⟩ => z.elim
  obtain ⟨G1, R1, q7⟩ := q7
  have real : ∀ {σ7 : L2.St} {H7 : Hp}, Inv X.nox (pins ++ pinsAt [a, env.locals, it] s.heap) σ7 H7 (Fk.gw s7 G1) → Inv X (pins ++ pinsAt [a, env.locals, it] s.heap) σ7 H7 s7 := fun {σ7 H7} J => by
    have b7 : AllBare s7.gens := Fk.bare_real R1 hbare J.bare
    exact Inv.withG (s := Fk.gw s7 G1) J.unwish b7
  have asl : ∀ {σ7 : L2.St} {H7 : Hp}, Inv X (pins ++ pinsAt [a, env.locals, it] s.heap) σ7 H7 s7 → Asleep X B env a g N size code low i it H7 s7 := fun {σ7 H7} J => by
    have kept : ∀ b ∈ [a, env.locals, it], ∀ o, s.heap.get? b = some o → s7.heap.get? b = some o ∧ H7 b = none := fun b hb o e => by
      have := J.pin (b, o) (List.mem_append_right _ (List.mem_append_right _ (mem_pinsAt hb e)))
      exact ⟨this.1, this.2.1⟩
    have slp : Slp env it s s7 := fun b o hb e => by
      rcases hb with e1 | e1 | e1
      · exact (kept b (by rw [e1]; simp) o e).1
      · exact (kept b (by rw [e1]; simp) o e).1
      · obtain ⟨og, es, ep, ho, _⟩ := I.mod.glob
        have z1 := I.bk _ _ ho
        have z2 := J.bk _ _ ho
        rw [e1] at e ⊢
        rw [z1] at e
        cases e
        exact z2
    refine ⟨hlow, ?_, hst.keeps slp, fun b hb => ?_, k, l, c, p, fs, cl, ?_, hcl, fun s'' z => hsl s'' fun b o hb e => z b o hb (slp b o hb e)⟩
    · obtain ⟨o, n1, n2, ho, z⟩ := hgen
      exact ⟨o, n1, n2, (kept a (by simp) o ho).1, z⟩
    · obtain ⟨o, ho, _⟩ := hob b hb
      exact (kept b hb o ho).2
    · exact (R1.fake g _ (Fk.sleepers_at hgs rfl)).2.2
  cases f with
  | next => obtain ⟨σ7, H7, J, n7⟩ := q7; exact ⟨σ7, H7, (real J).unpinned, n7, asl (real J)⟩
  | cont => obtain ⟨σ7, H7, J, n7⟩ := q7; exact ⟨σ7, H7, (real J).unpinned, n7, asl (real J)⟩
  | brk => obtain ⟨σ7, H7, J, n7⟩ := q7; exact ⟨σ7, H7, (real J).unpinned, n7⟩
  | ret u => obtain ⟨v7, σ7, H7, J, r7, n7⟩ := q7; exact ⟨v7, σ7, H7, (real J).unpinned, r7, n7⟩

/-- what a turn of the loop comes to -/
def TurnP (X : Cx) (pins : List (Addr × Obj)) (env : Env) (a g N : Nat) (size code : Int) (low : Nat) (it : Addr) (i : Nat) (D : Ends) (N' : L2.St → Hp → Prop) (f : Flow) (s7 : Shared) : Prop := match f with
  | .next | .cont => ∃ σ7 H7, Inv X pins σ7 H7 s7 ∧ N' σ7 H7 ∧ Asleep X X.A.in1 env a g N size code low i it H7 s7
  | .brk => ∃ σ7 H7, Inv X pins σ7 H7 s7 ∧ D.nx σ7 H7
  | .ret u => ∃ v σ7 H7, Inv X pins σ7 H7 s7 ∧ RelV v u ∧ D.rt v H7
theorem ps_forP {f : Addr} {fd : FuncData} {k ix : Nat} {nmp x : Str} {px p pos' pos : Pos} {e : Expr} {es : List Expr} {ta : TA} {body : List Stmt} {tb : TS}
    (F : PathDef X.prog X.w X.K X.mg X.base k f fd) (hr : Room (k + 1) X.A) (hg : Gl X nmp) (hm : X.mg nmp = some (.ref f)) (hk : PySem.W.keepIn X.K (.ref f) = true) (hb : Binds X.K fd pP []) (ha : PA X (e :: es) ta) (hp : PassesOwn (model X.prog X.w) X.A X.env X.xe) (hc : X.calm = true)
    (hN : X.N.Nodup) (hi : X.N[ix]? = some x) (hx : Loc X.env.scope x) (hbd : PSs X.nox body tb) (hf : X.fn x = true ∨ X.env.scope.names.lookup x = some .local := by first | exact .inl rfl | exact .inr rfl | assumption)
    (hdb : (nmp == ("__debug__" : Str)) = false := by decide) (he : starEach (e :: es) X.env = (false, eval e X.env) :: starEach es X.env := by rfl) (hpl : (backTo pos' (starEach es X.env)).any (·.1) = false := by rfl)
    (hs : ∀ v, foldedSetIterable (.Call (.Name nmp p) (e :: es) [] pos') X.env v = pure v := by intro _; rfl) :
    PS X (.For (.Name x px) (.Call (.Name nmp p) (e :: es) [] pos') body [] pos) (tForP ix ta tb) := by
  refine ⟨fun pins s σ H D I h => ?_⟩
  refine wpAny_For ?_ hs
  refine wpAny_Call_Name_kw (ld_glob I hg hm ?_ hdb)
  refine PySem.W.callWith_K (h₀ := X.base) I.ok.mod.kin hk (thn (ha.run pos' pins s σ H _ I h) fun us s1 ⟨vs, H1, I1, r1, q1⟩ => ⟨I1.kIn, ?_⟩) he hpl
  obtain ⟨code, size, many, rfl, ok, Pv, h0, hturn, hdone⟩ := q1
  have hl2 : us.length = 3 := r1.length.symm
  have hbt : BindsTo s1 fd ⟨us, []⟩ (pP.zip us) := by
    have := hb s1 us I1.kIn (by rw [List.append_nil]; exact hl2)
    rw [List.append_nil] at this
    exact this
  refine wpAny_call (codeAny_mono (F ok (hr.mono (Nat.le_succ _)) I1.env0 hbt r1) fun r s2 hq => ?_)
  cases r with
  | error e => exact False.elim hq
  | ok fl =>
  cases fl with
  | next => exact False.elim hq
  | brk => exact False.elim hq
  | cont => exact False.elim hq
  | ret u =>
  obtain ⟨a, g, c, env, rfl, m⟩ := hq
  refine wpAny_pyIter_gen m.gen ?_
  have hh : X.A.handled = none := I.ok.hd hc
  have hsz : s1.heap.objs.size ≤ s2.heap.objs.size := by
    have h1 : @LE.le Nat _ s1.heap.objs.size env.locals := m.young
    have h2 : @LT.lt Nat _ env.locals a := m.La
    have h3 : @Eq Nat (a + 1) s2.heap.objs.size := m.aE
    omega
  have I2 : Inv X pins σ H1 s2 := I1.call' (ch := []) m.os (Un.kept m.keep) (I1.hok.kept m.keep) m.bare fun b z => by simp at z
  have hgl : g < s2.gens.size := (Array.getElem?_eq_some_iff.mp m.fresh).1
  have yg : ∀ it : Addr, a + 1 ≤ it → ∀ b ∈ [a, env.locals, it], ∀ H' : Hp, H' b = none → FpOk X pins H' b := fun it hit b hb' H' hn => by
    have h1 : @LE.le Nat _ s1.heap.objs.size env.locals := m.young
    have h2 : @LT.lt Nat _ env.locals a := m.La
    have h3 : @LE.le Nat _ (a + 1) it := hit
    refine I1.fpOk ?_ hn
    show @LE.le Nat _ s1.heap.objs.size b
    rcases List.mem_cons.mp hb' with z | z
    · have z : @Eq Nat b a := z
      omega
    · rcases List.mem_cons.mp z with z | z
      · have z : @Eq Nat b env.locals := z
        omega
      · have z : @Eq Nat b it := List.mem_singleton.mp z
        omega
  -- a slot is out: the turn
  have go : ∀ (i : Nat) (it : Addr) (σ5 : L2.St) (H5 : Hp) (s5 : Shared) (t : Tok), i < many.toNat → a + 1 ≤ it → Inv X pins σ5 H5 s5 → Pv i σ5 H5 → Asleep X X.A.in1 env a g many.toNat size code (a + 1) (i + 1) it H5 s5 →
      wpAny (model X.prog X.w) X.A (assign (.Name x px) X.env (.int (sl size code i) t)) (fun _ s6 => wpAny (model X.prog X.w) X.A (execs body X.env) (TurnP X pins env a g many.toNat size code (a + 1) it (i + 1) D (Pv (i + 1))) (fun _ _ => False) s6) (fun _ _ => False) s5 := fun i it σ5 H5 s5 t hlt hit I5 hP hA => by
    refine wpAny_mono (turn_body I5 hA (yg it hit) hN hi hx hf hbd (v := .int (sl size code i)) ⟨t, rfl⟩ (hturn i σ5 H5 hlt hP)) (fun _ s6 h6 => wpAny_mono h6 (fun f s7 h7 => ?_) fun _ _ z => z) fun _ _ z => z
    cases f <;> exact h7
  refine codeAny_forLoop_any (fun n s' => ∃ i σ' H', i ≤ many.toNat ∧ n = many.toNat - i ∧ Inv X pins σ' H' s' ∧ Pv i σ' H' ∧ Head X X.A.in1 s2 σ H1 env a g many.toNat size code (a + 1) i σ' H' s') ?_ many.toNat ⟨0, σ, H1, Nat.zero_le _, by omega, I2, h0, .begin⟩
  rintro n s3 ⟨i, σ3, H3, hle, rfl, I3, hP, hd⟩
  -- behind the turn's body
  have fin : ∀ {it : Addr} {f : Flow} {s7 : Shared}, i < many.toNat → TurnP X pins env a g many.toNat size code (a + 1) it (i + 1) D (Pv (i + 1)) f s7 →
      (match f with
        | .next | .cont => ∃ m, m < many.toNat - i ∧ ∃ i σ' H', i ≤ many.toNat ∧ m = many.toNat - i ∧ Inv X pins σ' H' s7 ∧ Pv i σ' H' ∧ Head X X.A.in1 s2 σ H1 env a g many.toNat size code (a + 1) i σ' H' s7
        | .brk => SP X pins D .next s7
        | .ret v => SP X pins D (.ret v) s7) := fun {it f s7} hlt q => by
    cases f with
    | next => obtain ⟨σ7, H7, J, n7, z⟩ := q; exact ⟨many.toNat - (i + 1), by omega, i + 1, σ7, H7, by omega, rfl, J, n7, .amid (Nat.succ_pos _) z⟩
    | cont => obtain ⟨σ7, H7, J, n7, z⟩ := q; exact ⟨many.toNat - (i + 1), by omega, i + 1, σ7, H7, by omega, rfl, J, n7, .amid (Nat.succ_pos _) z⟩
    | brk => obtain ⟨σ7, H7, J, n7⟩ := q; exact ⟨σ7, H7, J, n7⟩
    | ret u => obtain ⟨v7, σ7, H7, J, r7, n7⟩ := q; exact ⟨v7, σ7, H7, J, r7, n7⟩
  -- the turn, from where the slot is out
  have turn : ∀ {it : Addr} {s5 : Shared} {t : Tok} {σ5 : L2.St} {H5 : Hp} {Z : Flow → Shared → Prop} {E : Value → Shared → Prop}, i < many.toNat → a + 1 ≤ it → Inv X pins σ5 H5 s5 → Pv i σ5 H5 → Asleep X X.A.in1 env a g many.toNat size code (a + 1) (i + 1) it H5 s5 →
      (∀ f s7, TurnP X pins env a g many.toNat size code (a + 1) it (i + 1) D (Pv (i + 1)) f s7 → Z f s7) →
      wpAny (model X.prog X.w) X.A (letOwnedTupleGo (.Name x px) (.ref a) (.int (sl size code i) t)) (fun _ s₁' => wpAny (model X.prog X.w) X.A (assign (.Name x px) X.env (.int (sl size code i) t)) (fun _ s₂ => wpAny (model X.prog X.w) X.A (execs body X.env) Z E s₂) E s₁') E s5 := fun {it s5 t σ5 H5 Z E} hlt hit I5 hP5 hA hZ => by
    refine wpAny_pure ?_
    exact wpAny_mono (go i it σ5 H5 s5 t hlt hit I5 hP5 hA) (fun _ s6 h6 => wpAny_mono h6 (fun f s7 h7 => hZ f s7 h7) fun _ _ z => z.elim) fun _ _ z => z.elim
  cases hd with
  | begin =>
    refine wpAny_gsz (n := g + 1) hgl (next_first hh I2.nolimit hr.depth m.gen m.fresh (m.wake X.A.in1 (s2.setGen g .running) [] hr.in1 I2.ok.frames (fun _ _ e => e) m.os (allBare_setGen m.bare rfl) (fun p hp => by simp at hp)) fun e s₁ he => ?_)
    cases e with
    | ret r =>
      obtain ⟨rfl, hN0, ⟨j1, j2, j3, j4, j5, j6, _⟩⟩ := he
      refine .inl ⟨rfl, fun h' hk' _ => ?_⟩
      have I4 : Inv X pins σ H1 s₁ := I1.call' (ch := []) j1 j3 j4 j2 fun b z => by simp at z
      have I5 : Inv X pins σ H1 { s₁.setGen g .finished with heap := h' } := Inv.withG (I4.kept (t' := s₁.toks) hk') (allBare_setGen j2 rfl)
      refine wpAny_execs_nil ?_
      rw [hN0] at hdone
      exact ⟨σ, H1, I5, hdone σ H1 hP⟩
    | susp v gd l k₁ c₁ p₁ fs₁ =>
      obtain ⟨hq, hN0, ⟨t, rfl⟩, ⟨j1, j2, j3, j4, j5, j6, _⟩, it, hit', hst, hsl⟩ := he
      have hit : a + 1 ≤ it := Nat.succ_le_of_lt (hit' a List.mem_cons_self)
      refine .inr ⟨_, gd, l, k₁, c₁, p₁, fs₁, rfl, hq, fun hsz' => ?_⟩
      have I4 : Inv X pins σ H1 s₁ := I1.call' (ch := []) j1 j3 j4 j2 fun b z => by simp at z
      have hcl : (gd || fs₁.any Frame.guarded) = false := by
        have : (!(gd || fs₁.any Frame.guarded)) = true := hq
        simpa using this
      have hb' : (End.susp (Value.int (sl size code 0) t) gd l k₁ c₁ p₁ fs₁).genState.bare = true := End.bare_of_quiet hq
      have I5 : Inv X pins σ H1 (s₁.setGen g (End.susp (Value.int (sl size code 0) t) gd l k₁ c₁ p₁ fs₁).genState) := Inv.withG I4 (allBare_setGen j2 hb')
      have hgs1 : g < s₁.gens.size := by
        have q : (s₁.setGen g (End.susp (Value.int (sl size code 0) t) gd l k₁ c₁ p₁ fs₁).genState).gens.size = s₁.gens.size := setGen_size _ _ _
        have hsz'' : g + 1 ≤ (s₁.setGen g (End.susp (Value.int (sl size code 0) t) gd l k₁ c₁ p₁ fs₁).genState).gens.size := hsz'
        omega
      refine turn hN0 hit I5 hP ⟨hit, j5, hst, fun b hb' => ?_, k₁, l, c₁, p₁, fs₁, _, setGen_at hgs1, hcl, hsl⟩ fun f s7 q => ?_
      · have yy : @LE.le Nat _ s1.heap.objs.size b := by
          have h1 : @LE.le Nat _ s1.heap.objs.size env.locals := m.young
          have h2 : @LT.lt Nat _ env.locals a := m.La
          have h3 : @LE.le Nat _ (a + 1) it := hit
          rcases List.mem_cons.mp hb' with z | z
          · have z : @Eq Nat b a := z
            omega
          · rcases List.mem_cons.mp z with z | z
            · have z : @Eq Nat b env.locals := z
              omega
            · have z : @Eq Nat b it := List.mem_singleton.mp z
              omega
        exact I1.hok.fresh yy
      · have := fin hN0 q
        cases f <;> exact this
  | @amid _ it _ _ _ hpos hA =>
    obtain ⟨hlow, hgen, hst, hnT, ⟨k₁, l₁, c₁, p₁, fs₁, cl₁, hgs, hcl, hsl⟩⟩ := hA
    have hgl3 : g < s3.gens.size := (Array.getElem?_eq_some_iff.mp hgs).1
    have fL : FpOk X pins H3 env.locals := yg it hlow _ (by simp) H3 (hnT _ (by simp))
    have fI : FpOk X pins H3 it := yg it hlow _ (by simp) H3 (hnT _ (by simp))
    have haL : a ≠ env.locals := Nat.ne_of_gt m.La
    have haI : a ≠ it := Nat.ne_of_lt (Nat.lt_of_lt_of_le (Nat.lt_succ_self a) hlow)
    have I3' : Inv X pins σ3 H3 (s3.setGen g .running) := Inv.withG I3 (allBare_setGen I3.bare rfl)
    refine wpAny_gsz (n := g + 1) hgl3 (next_later (n := many.toNat - i) hh I3.nolimit hr.depth hgen hgs (hsl (s3.setGen g .running) fun _ _ _ e => e) (fun r s₁ hR => ?_) fun v gd l k₂ c₂ p₂ fs₂ s₁ hq hY => ?_)
    · obtain ⟨rfl, hn0, hj⟩ := hR
      unfold Jr at hj
      rw [if_neg (by omega)] at hj
      refine ⟨rfl, fun h' hk' _ => ?_⟩
      have I4 : Inv X pins σ3 H3 s₁ := inv_mv I3' hj fL fI
      have I5 : Inv X pins σ3 H3 { s₁.setGen g .finished with heap := h' } := Inv.withG (I4.kept (t' := s₁.toks) hk') (allBare_setGen I4.bare rfl)
      refine wpAny_execs_nil ?_
      have e : i = many.toNat := by omega
      rw [← e] at hdone
      exact ⟨σ3, H3, I5, hdone σ3 H3 hP⟩
    · obtain ⟨i', t, hi', rfl, hj, hy, hkap⟩ := hY
      intro hsz'
      obtain ⟨m', hm'⟩ : ∃ m', many.toNat - i = m' + 1 := by
        cases hz : many.toNat - i with
        | succ m' => exact ⟨m', rfl⟩
        | zero =>
          have := hkap s₁ fun _ _ _ e => e
          rw [hz] at this
          exact False.elim this
      have ei : i' = i := by omega
      subst ei
      have hlt : i' < many.toNat := by omega
      unfold Jr at hj
      rw [if_neg (by omega)] at hj
      have I4 : Inv X pins σ3 H3 s₁ := inv_mv I3' hj fL fI
      have hcl2 : (gd || fs₂.any Frame.guarded) = false := by
        have : (!(gd || fs₂.any Frame.guarded)) = true := hq
        simpa using this
      have hb' : (End.susp (Value.int (sl size code i') t) gd l k₂ c₂ p₂ fs₂).genState.bare = true := End.bare_of_quiet hq
      have I5 : Inv X pins σ3 H3 (s₁.setGen g (End.susp (Value.int (sl size code i') t) gd l k₂ c₂ p₂ fs₂).genState) := Inv.withG I4 (allBare_setGen I4.bare hb')
      have hgs1 : g < s₁.gens.size := by
        have q : (s₁.setGen g (End.susp (Value.int (sl size code i') t) gd l k₂ c₂ p₂ fs₂).genState).gens.size = s₁.gens.size := setGen_size _ _ _
        have hsz'' : g + 1 ≤ (s₁.setGen g (End.susp (Value.int (sl size code i') t) gd l k₂ c₂ p₂ fs₂).genState).gens.size := hsz'
        omega
      have hgen1 : s₁.heap.IsGen a g := by
        obtain ⟨h', tk, rfl, k'⟩ := hj
        obtain ⟨o, n1, n2, ho, z⟩ := hgen
        exact ⟨o, n1, n2, k' _ o haL haI ho, z⟩
      refine turn hlt hlow I5 hP ⟨hlow, hgen1, hy, hnT, k₂, l, c₂, p₂, fs₂, _, setGen_at hgs1, hcl2, fun s'' z => ?_⟩ fun f s7 q => ?_
      · have := hkap s'' z
        rw [hm'] at this
        rw [show many.toNat - (i' + 1) = m' by omega]
        exact this
      · have := fin hlt q
        cases f <;> exact this
end
end Pth
set_option Elab.async false
set_option linter.all false
set_option maxRecDepth 100000
set_option maxHeartbeats 1000000
/-! Pl: list(path(..)) -/
namespace Pth
open PySem PySem.Spec PyProof.Rows L2 GenW
section
variable {X : Cx} {pins : List (Addr × Obj)} {σ : L2.St} {H : Hp} {s : Shared}
/-- an object of ours is tracked from now on -/
theorem inv_track {S : Addr} {o : HO} (I : Inv X pins σ H s) (f : FpOk X pins H S) (hs : ∃ u, s.heap.get? S = some u) (new : ObjOk X.prog X.w (upd H S o) s.heap S o) : Inv X pins σ (upd H S o) s := by
  obtain ⟨a0, a1, a2, a3, a4, a5⟩ := f
  have ne : ∀ b, b ∉ [S] → b ≠ S := fun b hb z => hb (by rw [z]; simp)
  have nt : ∀ b u, H b = some u → b ≠ S := fun b u e => ne_of_none e a0
  obtain ⟨hp, g, d, t, os⟩ := s
  refine I.step (g' := g) (d' := d) (t' := t) (h' := hp) (ch := [S]) (fun b hb => ?_) (fun b o _ _ _ e _ => e) (fun b o _ _ _ e _ => ⟨o.slots, e⟩) (fun b _ hc _ n => by rw [upd_ne (ne b hc)]; exact n)
    (fun b o _ e => ⟨o, e⟩) (fun b _ e => by rw [upd_ne (nt b _ e)]; exact e) (fun b _ _ e => by rw [upd_ne (nt b _ e)]; exact e) (fun b ps e => ⟨#[], by rw [upd_ne (nt b _ e), e]; simp⟩) (fun m hm => hm) (fun b u e => ?_) I.bare
  · rw [List.mem_singleton.mp hb]; exact ⟨a3, a1, a4, a5⟩
  · by_cases hb : b = S
    · rw [hb, upd_same] at e
      cases e
      rw [hb]
      exact new
    · rw [upd_ne hb] at e
      exact (I.hok b u e).stay (fun _ _ _ q => q) (fun c q => by rw [upd_ne (nt c _ q)]; exact q) fun c xs q => by rw [upd_ne (nt c _ q)]; exact q
/-- the slots, a list -/
def slots (size code many : Int) : List V := (List.range many.toNat).map fun i => V.int (sl size code i)
def tListP (ta : TA) : TE := fun σ H Q => ta σ H fun vs H1 => ∃ code size many : Int, vs = [.int code, .int size, .int many] ∧ POk code size many ∧ many.toNat ≤ sizeLine ∧ ∀ p, H1 p = none → Q (.ref p) (upd H1 p (.lst (slots size code many)))
/-- the list stands at S: i slots are in it -/
def InList (S : Addr) (size code : Int) (i : Nat) (s : Shared) : Prop := ∃ (acc : Array Value) (c : Nat), Vals ((List.range i).map fun i => V.int (sl size code i)) acc.toList ∧ s.heap.get? S = some (lstObj acc c)
theorem vals_snoc {size code : Int} {i : Nat} {acc : Array Value} {t : Tok} (h : Vals ((List.range i).map fun i => V.int (sl size code i)) acc.toList) : Vals ((List.range (i + 1)).map fun i => V.int (sl size code i)) (acc.push (.int (sl size code i) t)).toList := by
  rw [List.range_succ, List.map_append, Array.toList_push]
  exact h.append (.cons ⟨t, rfl⟩ .nil)
/-- the loop that fills the list, i slots being in it -/
theorem drainP {A : Around} {env : Env} {a g : Nat} {size code many : Int} {S it : Addr} {R : Result → Shared → Prop} {res : Value} (hh : A.handled = none) (hd : A.depth < recursionLimit) (hle : many.toNat ≤ sizeLine) (hL : env.locals ≠ S) (hI : it ≠ S) (haS : a ≠ S) (haL : a ≠ env.locals) (haI : a ≠ it) (hGS : mainGlobals ≠ S)
    (fS : FpOk X pins H S) (fL : FpOk X pins H env.locals) (fI : FpOk X pins H it)
    (hend : ∀ s', Inv X pins σ H s' → InList S size code many.toNat s' → R (.ok (.ret res)) s') :
    ∀ (r i : Nat) (s : Shared), 0 < i → i + r = many.toNat → Inv X pins σ H s → InList S size code i s → Asleep X A.in1.in1 env a g many.toNat size code 0 i it H s →
      codeAny (model X.prog X.w) A (.builtin "list.extend.loop" ⟨[.ref S, .ref a, res], []⟩) R s := by
  intro r
  induction r with
  | zero =>
    intro i s hpos hir I hin hA
    obtain ⟨hlow, hgen, hst, hnT, ⟨k₁, l₁, c₁, p₁, fs₁, cl₁, hgs, hcl, hsl⟩⟩ := hA
    have I' : Inv X pins σ H (s.setGen g .running) := Inv.withG I (allBare_setGen I.bare rfl)
    refine codeAny_builtin F.entry_extend_loop ?_
    rw [Around.under_plainId F.plain_extend_loop _]
    show wpAny _ A.in1 (pyNext (.ref a) >>= _) _ _ s
    refine wpAny_bind (next_later (A := A.in1) (n := many.toNat - i) hh I.nolimit hd hgen hgs (hsl (s.setGen g .running) fun _ _ _ e => e) (fun r s₁ hR => ?_) fun v gd l k₂ c₂ p₂ fs₂ s₁ hq hY => ?_)
    · obtain ⟨rfl, hn0, hj⟩ := hR
      unfold Jr at hj
      rw [if_neg (by omega)] at hj
      refine ⟨rfl, fun h' hk' => ?_⟩
      have I4 : Inv X pins σ H s₁ := inv_mv I' hj fL fI
      have I5 : Inv X pins σ H { s₁.setGen g .finished with heap := h' } := Inv.withG (I4.kept (t' := s₁.toks) hk') (allBare_setGen I4.bare rfl)
      refine wpAny_pure (hend _ I5 ?_)
      obtain ⟨acc, c, hv, hS⟩ := hin
      obtain ⟨h2, tk, rfl, k2⟩ := hj
      refine ⟨acc, c, ?_, hk' _ _ (k2 _ _ (Ne.symm hL) (Ne.symm hI) hS)⟩
      have e : many.toNat = i := by omega
      rw [e]; exact hv
    · obtain ⟨i', t, hi', rfl, hj, hy, hkap⟩ := hY
      have := hkap s₁ fun _ _ _ e => e
      rw [show many.toNat - i = 0 by omega] at this
      exact False.elim this
  | succ r ih =>
    intro i s hpos hir I hin hA
    obtain ⟨hlow, hgen, hst, hnT, ⟨k₁, l₁, c₁, p₁, fs₁, cl₁, hgs, hcl, hsl⟩⟩ := hA
    have hgl : g < s.gens.size := (Array.getElem?_eq_some_iff.mp hgs).1
    have I' : Inv X pins σ H (s.setGen g .running) := Inv.withG I (allBare_setGen I.bare rfl)
    refine codeAny_builtin F.entry_extend_loop ?_
    rw [Around.under_plainId F.plain_extend_loop _]
    show wpAny _ A.in1 (pyNext (.ref a) >>= _) _ _ s
    refine wpAny_bind (wpAny_gsz (n := g + 1) hgl (next_later (A := A.in1) (n := many.toNat - i) hh I.nolimit hd hgen hgs (hsl (s.setGen g .running) fun _ _ _ e => e) (fun r s₁ hR => ?_) fun v gd l k₂ c₂ p₂ fs₂ s₁ hq hY => ?_))
    · obtain ⟨rfl, hn0, hj⟩ := hR
      omega
    · obtain ⟨i', t, hi', rfl, hj, hy, hkap⟩ := hY
      intro hsz'
      have ei : i' = i := by omega
      subst ei
      unfold Jr at hj
      rw [if_neg (by omega)] at hj
      have I4 : Inv X pins σ H s₁ := inv_mv I' hj fL fI
      have hcl2 : (gd || fs₂.any Frame.guarded) = false := by
        have : (!(gd || fs₂.any Frame.guarded)) = true := hq
        simpa using this
      have hb' : (End.susp (Value.int (sl size code i') t) gd l k₂ c₂ p₂ fs₂).genState.bare = true := End.bare_of_quiet hq
      have I5 : Inv X pins σ H (s₁.setGen g (End.susp (Value.int (sl size code i') t) gd l k₂ c₂ p₂ fs₂).genState) := Inv.withG I4 (allBare_setGen I4.bare hb')
      have hgs1 : g < s₁.gens.size := by
        have q : (s₁.setGen g (End.susp (Value.int (sl size code i') t) gd l k₂ c₂ p₂ fs₂).genState).gens.size = s₁.gens.size := setGen_size _ _ _
        have hsz'' : g + 1 ≤ (s₁.setGen g (End.susp (Value.int (sl size code i') t) gd l k₂ c₂ p₂ fs₂).genState).gens.size := hsz'
        omega
      obtain ⟨h2, tk, rfl, k2⟩ := hj
      obtain ⟨acc, c, hv, hS⟩ := hin
      have hS1 : h2.get? S = some (lstObj acc c) := k2 _ _ (Ne.symm hL) (Ne.symm hI) hS
      have hal : acc.size = i' := by
        have := hv.length
        simpa using this.symm
      show wpAny _ A.in1 (updateSeq S (·.push (.int (sl size code i') t)) >>= _) _ _ _
      refine wpAny_bind ?_
      refine wpAny_updateSeq hS1 rfl (wpAny_pure ⟨plainId_quiet F.plain_extend_loop _, ?_⟩) (by omega) (by show (acc.push _).size ≤ sizeLine + 1; rw [Array.size_push]; omega)
      have keep3 : ∀ b o, b ≠ S → h2.get? b = some o → (h2.update S (Obj.mapSeq (·.push (.int (sl size code i') t)))).get? b = some o := fun b o hbS e => (Heap.get?_update_other _ _ (Ne.symm hbS)).trans e
      obtain ⟨s0, s1', s2, s3, s4, s5⟩ := fS
      refine ih (i' + 1) _ (by omega) (by omega) (I5.turned (it := S) (t' := tk) keep3 s0 s1' s3 s4 s5) ⟨_, _, vals_snoc hv, Heap.get?_update_self _ hS1 rfl⟩ ⟨Nat.zero_le _, ?_, ?_, hnT, k₂, l, c₂, p₂, fs₂, _, setGen_at hgs1, hcl2, fun s'' z => ?_⟩
      · obtain ⟨o, n1, n2, ho, z⟩ := hgen
        exact ⟨o, n1, n2, keep3 _ o haS (k2 _ o haL haI ho), z⟩
      · refine hy.keeps (s' := { heap := h2.update S (Obj.mapSeq (·.push (.int (sl size code i') t))), gens := s.gens, drawn := s.drawn, toks := tk, os := s.os }) fun b o hb e => ?_
        refine keep3 b o ?_ e
        rcases hb with e | e | e <;> rw [e] <;> first | exact hL | exact hI | exact hGS
      · have := hkap s'' fun b o hb e => z b o hb ?_
        · rw [show many.toNat - i' = r + 1 by omega] at this
          rw [show many.toNat - (i' + 1) = r by omega]
          exact this
        · refine keep3 b o ?_ e
          rcases hb with e | e | e <;> rw [e] <;> first | exact hL | exact hI | exact hGS

theorem drain0 {A : Around} {env : Env} {k a g : Nat} {c : Code} {size code many : Int} {S : Addr} {R : Result → Shared → Prop} {res : Value} {H1 : Hp} {s1 s2 : Shared} {cc : Nat} (hh : A.handled = none) (hd : A.depth < recursionLimit) (hle : many.toNat ≤ sizeLine)
    (I1 : Inv X pins σ H1 s1) (m : PMade X.prog X.w k X.stack H1 s1 many.toNat size code a g c env s2) (hr : Room k A.in1.in1) (hfr : A.in1.in1.frames = some X.stack) (hk : ∀ b o, s2.heap.get? b = some o → s.heap.get? b = some o) (hg : s.gens = s2.gens) (ho : s.os = s2.os)
    (hS : s.heap.get? S = some (lstObj #[] cc)) (haS : a < S)
    (hend : ∀ s', Inv X pins σ H1 s' → InList S size code many.toNat s' → R (.ok (.ret res)) s') :
    codeAny (model X.prog X.w) A (.builtin "list.extend.loop" ⟨[.ref S, .ref a, res], []⟩) R s := by
  have y1 : @LE.le Nat _ s1.heap.objs.size env.locals := m.young
  have y2 : @LT.lt Nat _ env.locals a := m.La
  have y3 : @LT.lt Nat _ a S := haS
  have yng : ∀ b : Addr, @LE.le Nat _ env.locals b → ∀ {H' : Hp}, H' b = none → FpOk X pins H' b := fun b hb H' hn => I1.fpOk (show @LE.le Nat _ s1.heap.objs.size b by omega) hn
  have ynn : ∀ b : Addr, @LE.le Nat _ env.locals b → H1 b = none := fun b hb => I1.hok.fresh (show @LE.le Nat _ s1.heap.objs.size b by omega)
  have hmG : @LT.lt Nat _ mainGlobals S := by
    obtain ⟨o, es, ep, ho, _⟩ := I1.mod.glob
    have := Heap.lt_size (I1.bk _ _ ho)
    have : @LT.lt Nat _ mainGlobals s1.heap.objs.size := this
    omega
  have hL : env.locals ≠ S := Nat.ne_of_lt (show @LT.lt Nat _ env.locals S by omega)
  have hgen : s.heap.IsGen a g := m.gen.keeps hk
  have hlim : s.heap.NoLimit := m.lim.keeps hk
  have hgs : s.gens[g]? = some (.fresh c) := by rw [hg]; exact m.fresh
  have hgl : g < s.gens.size := (Array.getElem?_eq_some_iff.mp hgs).1
  have hbare : AllBare s.gens := by rw [hg]; exact m.bare
  have fS : FpOk X pins H1 S := yng S (by omega) (ynn S (by omega))
  have fL : FpOk X pins H1 env.locals := yng _ (Nat.le_refl _) (ynn _ (Nat.le_refl _))
  refine codeAny_builtin F.entry_extend_loop ?_
  rw [Around.under_plainId F.plain_extend_loop _]
  show wpAny _ A.in1 (pyNext (.ref a) >>= _) _ _ s
  refine wpAny_bind (wpAny_gsz (n := g + 1) hgl (next_first (A := A.in1) hh hlim hd hgen hgs (m.wake A.in1.in1 (s.setGen g .running) [(S, lstObj #[] cc)] hr hfr (fun b o e => hk b o e) (ho.trans m.os) (allBare_setGen hbare rfl) (fun p hp => by
    rw [List.mem_singleton.mp hp]
    exact ⟨hS, haS, fun v z => by cases z⟩)) fun e s₁ he => ?_))
  cases e with
  | ret r =>
    obtain ⟨rfl, hN0, ⟨j1, j2, j3, j4, j5, j6, j7⟩⟩ := he
    refine .inl ⟨rfl, fun h' hk' _ => ?_⟩
    have I4 : Inv X pins σ H1 s₁ := I1.call' (ch := []) j1 j3 j4 j2 fun b z => by simp at z
    have I5 : Inv X pins σ H1 { s₁.setGen g .finished with heap := h' } := Inv.withG (I4.kept (t' := s₁.toks) hk') (allBare_setGen j2 rfl)
    refine wpAny_pure (hend _ I5 ⟨#[], cc, ?_, hk' _ _ (j7 (S, lstObj #[] cc) (List.mem_singleton.mpr rfl))⟩)
    rw [hN0]
    exact .nil
  | susp v gd l k₁ c₁ p₁ fs₁ =>
    obtain ⟨hq, hN0, ⟨t, rfl⟩, ⟨j1, j2, j3, j4, j5, j6, j7⟩, it, hit', hst, hsl⟩ := he
    refine .inr ⟨_, gd, l, k₁, c₁, p₁, fs₁, rfl, hq, fun hsz' => ?_⟩
    have hai : @LT.lt Nat _ a it := hit' a List.mem_cons_self
    have hSi : @LT.lt Nat _ S it := hit' S (by simp)
    have I4 : Inv X pins σ H1 s₁ := I1.call' (ch := []) j1 j3 j4 j2 fun b z => by simp at z
    have hcl2 : (gd || fs₁.any Frame.guarded) = false := by
      have : (!(gd || fs₁.any Frame.guarded)) = true := hq
      simpa using this
    have hb' : (End.susp (Value.int (sl size code 0) t) gd l k₁ c₁ p₁ fs₁).genState.bare = true := End.bare_of_quiet hq
    have I5 : Inv X pins σ H1 (s₁.setGen g (End.susp (Value.int (sl size code 0) t) gd l k₁ c₁ p₁ fs₁).genState) := Inv.withG I4 (allBare_setGen j2 hb')
    have hgs1 : g < s₁.gens.size := by
      have q : (s₁.setGen g (End.susp (Value.int (sl size code 0) t) gd l k₁ c₁ p₁ fs₁).genState).gens.size = s₁.gens.size := setGen_size _ _ _
      have hsz'' : g + 1 ≤ (s₁.setGen g (End.susp (Value.int (sl size code 0) t) gd l k₁ c₁ p₁ fs₁).genState).gens.size := hsz'
      omega
    have fI : FpOk X pins H1 it := yng it (by omega) (ynn it (by omega))
    have hS1 : s₁.heap.get? S = some (lstObj #[] cc) := j7 (S, lstObj #[] cc) (List.mem_singleton.mpr rfl)
    have haS' : a ≠ S := Nat.ne_of_lt y3
    have haL : a ≠ env.locals := Nat.ne_of_gt y2
    have haI : a ≠ it := Nat.ne_of_lt hai
    have hI : it ≠ S := Nat.ne_of_gt hSi
    have hGS : mainGlobals ≠ S := Nat.ne_of_lt hmG
    obtain ⟨hp1, g1, d1, t1, o1⟩ := s₁
    have hS1 : hp1.get? S = some (lstObj #[] cc) := hS1
    show wpAny _ A.in1 (updateSeq S (·.push (.int (sl size code 0) t)) >>= _) _ _ _
    refine wpAny_bind ?_
    refine wpAny_updateSeq hS1 rfl (wpAny_pure ⟨plainId_quiet F.plain_extend_loop _, ?_⟩) (by show (0 : Nat) ≤ sizeLine; exact Nat.zero_le _) (by show (1 : Nat) ≤ sizeLine + 1; omega)
    have keep3 : ∀ b o, b ≠ S → hp1.get? b = some o → (hp1.update S (Obj.mapSeq (·.push (.int (sl size code 0) t)))).get? b = some o := fun b o hbS e => (Heap.get?_update_other _ _ (Ne.symm hbS)).trans e
    obtain ⟨s0', s1', s2', s3', s4', s5'⟩ := id fS
    refine drainP (A := A) hh hd hle hL hI haS' haL haI hGS fS fL fI hend (many.toNat - 1) 1 _ (by omega) (by omega) (I5.turned (it := S) (t' := t1) keep3 s0' s1' s3' s4' s5') ⟨_, _, vals_snoc (i := 0) (acc := #[]) .nil, Heap.get?_update_self _ hS1 rfl⟩ ⟨Nat.zero_le _, ?_, ?_, fun b hb => ?_, k₁, l, c₁, p₁, fs₁, _, setGen_at hgs1, hcl2, fun s'' z => ?_⟩
    · obtain ⟨o, n1, n2, ho, z⟩ := j5
      exact ⟨o, n1, n2, keep3 _ o haS' ho, z⟩
    · refine hst.keeps (s' := { heap := hp1.update S (Obj.mapSeq (·.push (.int (sl size code 0) t))), gens := g1, drawn := d1, toks := t1, os := o1 }) fun b o hb e => ?_
      refine keep3 b o ?_ e
      rcases hb with e | e | e <;> rw [e] <;> first | exact hL | exact hI | exact hGS
    · refine ynn b ?_
      rcases List.mem_cons.mp hb with z | z
      · have z : @Eq Nat b a := z
        omega
      · rcases List.mem_cons.mp z with z | z
        · have z : @Eq Nat b env.locals := z
          omega
        · have z : @Eq Nat b it := List.mem_singleton.mp z
          omega
    · refine hsl s'' fun b o hb e => z b o hb (keep3 b o ?_ e)
      rcases hb with e | e | e <;> rw [e] <;> first | exact hL | exact hI | exact hGS

theorem inList_lst {P : Program} {w : World} {H' : Hp} {S : Addr} {size code many : Int} {s : Shared} (h : InList S size code many.toNat s) (hle : many.toNat ≤ sizeLine) : ObjOk P w H' s.heap S (.lst (slots size code many)) := by
  obtain ⟨acc, c, hv, hS⟩ := h
  refine ⟨?_, acc.toList, c, hv, hS⟩
  unfold slots
  rw [List.length_map, List.length_range]
  exact hle
theorem call_listP {A : Around} {env : Env} {k a g : Nat} {c : Code} {size code many : Int} {H1 : Hp} {s1 s2 : Shared} {Q : VK} {E : Value → Shared → Prop} (hA : A = X.A) (hle : many.toNat ≤ sizeLine) (hr : Room (k + 3) A) (I1 : Inv X pins σ H1 s1) (m : PMade X.prog X.w k X.stack H1 s1 many.toNat size code a g c env s2)
    (hQ : ∀ p, H1 p = none → Q (.ref p) (upd H1 p (.lst (slots size code many)))) :
    wpAny (model X.prog X.w) A (call (.type "list") [.ref a]) (EP X pins σ Q) E s2 := by
  have y1 : @LE.le Nat _ s1.heap.objs.size env.locals := m.young
  have y2 : @LT.lt Nat _ env.locals a := m.La
  have y3 : @Eq Nat (a + 1) s2.heap.objs.size := m.aE
  have hSa : s2.heap.objs.size ≠ a := Nat.ne_of_gt (show @LT.lt Nat _ a s2.heap.objs.size by omega)
  refine callType_codes (Q₁ := fun obj s₁ => obj = .ref s2.heap.objs.size ∧ s₁ = { s2 with heap := s2.heap.push { cls := .type "list", data := .seq #[] } }) F.called_list (F.typeCall_list_1 _) F.entry_list_init
    (code_list_new _ ⟨rfl, rfl⟩) fun obj s₁ h₁ => ?_
  obtain ⟨rfl, rfl⟩ := h₁
  have hS : (s2.heap.push { cls := .type "list", data := .seq #[] }).get? s2.heap.objs.size = some { cls := .type "list", data := .seq #[] } := Heap.get?_push_size _ rfl
  refine ⟨⟨_, hS, rfl⟩, F.args_list_init_2 _ _, ?_⟩
  show wpAny _ A.in1.in1 (do let old ← Builtin.List.listItems (.ref s2.heap.objs.size); Builtin.List.listUpdate (.ref s2.heap.objs.size) (fun _ => #[]); letGo old.toList.reverse; Builtin.List.listExtendWith (.ref s2.heap.objs.size) (.ref a) .none) _ _ _
  refine wpAny_bind ?_
  unfold Builtin.List.listItems
  refine wpAny_bind (wpAny_seqItems hS rfl (wpAny_pure ?_))
  show wpAny _ A.in1.in1 (updateSeq s2.heap.objs.size (fun _ => #[]) >>= fun _ => letGo (#[] : Array Value).toList.reverse >>= fun _ => Builtin.List.listExtendWith (.ref s2.heap.objs.size) (.ref a) .none) _ _ _
  refine wpAny_bind (wpAny_updateSeq hS rfl ?_)
  have hS2 := Heap.get?_update_self (Obj.mapSeq (fun _ => (#[] : Array Value))) hS rfl
  refine wpAny_bind (wpAny_letGo ?_)
  unfold Builtin.List.listExtendWith
  have up : ∀ (h : Heap) (f : Obj → Obj), (∀ b o, s2.heap.get? b = some o → h.get? b = some o) → ∀ b o, s2.heap.get? b = some o → (h.update s2.heap.objs.size f).get? b = some o := fun h f q b o e =>
    (Heap.get?_update_other _ _ (Ne.symm (Nat.ne_of_lt (Heap.lt_size e)))).trans (q b o e)
  have k1 : ∀ b o, s2.heap.get? b = some o → (s2.heap.push { cls := .type "list", data := .seq #[] }).get? b = some o := fun b o e => Heap.get?_push_of_some _ e
  have k2 := up _ (Obj.mapSeq (fun _ => (#[] : Array Value))) k1
  have gty : ∀ {h : Heap}, (∀ b o, s2.heap.get? b = some o → h.get? b = some o) → h.IsGen a g := fun {h} q => m.gen.keeps q
  refine wpAny_bind (wpAny_typeOf (Heap.IsGen.typeIs (s := { s2 with heap := _ }) (gty k2)) ?_)
  have h1 : Builtin.List.listSameRef (.ref s2.heap.objs.size) (.ref a) = false := by simp [Builtin.List.listSameRef, hSa]
  have h2 : (Value.type "generator" == Value.type "list") = false := by decide
  have h3 : (Value.type "generator" == Value.type "tuple") = false := by decide
  simp only [h1, h2, h3, Bool.or_false, Bool.false_eq_true, if_false]
  refine wpAny_bind (wpAny_pyIter_gen (s := { s2 with heap := _ }) (gty k2) ?_)
  refine wpAny_bind (wpAny_holding ?_)
  unfold Builtin.List.listLengthHint
  refine wpAny_bind (wpAny_specialOf (Heap.IsGen.typeIs (s := { s2 with heap := _ }) (gty k2)) F.gen_no_len ?_)
  show wpAny _ A.in1.in1 (specialOf (Value.ref a) (Str.ofString "__length_hint__") >>= _) _ _ _
  refine wpAny_bind (wpAny_specialOf (Heap.IsGen.typeIs (s := { s2 with heap := _ }) (gty k2)) F.gen_no_hint ?_)
  refine wpAny_pure ?_
  show wpAny _ A.in1.in1 (rule "list.extend.makes-room" >>= fun _ => Builtin.List.listTouch (.ref s2.heap.objs.size) >>= fun _ =>
    again (.builtin "list.extend.loop" ⟨[.ref s2.heap.objs.size, .ref a, .none], []⟩)) _ _ _
  refine wpAny_bind (wpAny_rule ?_)
  refine wpAny_bind ?_
  show wpAny _ A.in1.in1 (updateSeq s2.heap.objs.size (·.push .none) >>= fun _ => updateSeq s2.heap.objs.size (·.pop)) _ _ _
  refine wpAny_bind (wpAny_updateSeq hS2 rfl ?_)
  have hS3 := Heap.get?_update_self (Obj.mapSeq (·.push Value.none)) hS2 rfl
  refine wpAny_updateSeq (hz := by seq_fits) hS3 rfl ?_
  have hS4 := Heap.get?_update_self (Obj.mapSeq (·.pop)) hS3 rfl
  have k4 := up _ (Obj.mapSeq (·.pop)) (up _ (Obj.mapSeq (·.push Value.none)) k2)
  refine wpAny_pure ⟨plainId_quiet F.plain_extend_loop _, ?_⟩
  refine drain0 (A := A.in1) hr.hd (by have := hr.dp; show A.depth < _; omega) hle I1 m ⟨hr.hd, ?_, ?_⟩ (by rw [hA]; exact I1.ok.frames) k4 rfl rfl hS4 (show @LT.lt Nat _ a s2.heap.objs.size by omega) fun s' I' hin => ⟨rfl, ?_⟩
  · have := hr.dp
    show A.depth + 3 * k + 5 < _
    omega
  · have := hr.un
    show A.units + 1 + 1 + 1 + 16 * k + 200 < _
    omega
  · have hn : H1 s2.heap.objs.size = none := I1.hok.fresh (show @LE.le Nat _ s1.heap.objs.size s2.heap.objs.size by omega)
    have fS : FpOk X pins H1 s2.heap.objs.size := I1.fpOk (show @LE.le Nat _ s1.heap.objs.size s2.heap.objs.size by omega) hn
    have hob : ∃ u, s'.heap.get? s2.heap.objs.size = some u := by
      obtain ⟨acc, c, _, h⟩ := hin
      exact ⟨_, h⟩
    exact ⟨.ref s2.heap.objs.size, _, inv_track I' fS hob (inList_lst hin hle), rfl, hQ _ hn⟩
/-- list(path(..)) -/
theorem pe_listP {f : Addr} {fd : FuncData} {k : Nat} {nmp nml : Str} {p p1 pos' pos : Pos} {e : Expr} {es : List Expr} {ta : TA}
    (F : PathDef X.prog X.w X.K X.mg X.base k f fd) (hr : Room (k + 3) X.A) (hg : Gl X nmp) (hm : X.mg nmp = some (.ref f)) (hk : PySem.W.keepIn X.K (.ref f) = true) (hb : Binds X.K fd pP []) (ha : PA X (e :: es) ta)
    (hgl : Gl X nml) (hmg : X.mg nml = none) (hv : bootBuiltins nml = some (.type "list")) (hnm : nml ≠ "__name__" := by decide) (hdl : (nml == ("__debug__" : Str)) = false := by decide)
    (hdb : (nmp == ("__debug__" : Str)) = false := by decide) (he : starEach (e :: es) X.env = (false, eval e X.env) :: starEach es X.env := by rfl) (hpl : (backTo pos' (starEach es X.env)).any (·.1) = false := by rfl)
    (he1 : starEach [.Call (.Name nmp p1) (e :: es) [] pos'] X.env = (false, eval (.Call (.Name nmp p1) (e :: es) [] pos') X.env) :: starEach [] X.env := by rfl) :
    PE X (.Call (.Name nml p) [.Call (.Name nmp p1) (e :: es) [] pos'] [] pos) (tListP ta) := by
  refine ⟨fun pins s σ H Q I h => ?_⟩
  refine wpAny_Call_Name_kw (ld_blt I hgl hmg hv ?_ hnm hdl)
  refine PyProof.Rows.callWith_type1 ?_ he1 rfl
  rw [he1]
  show wpAny _ _ (spliced ((false, eval (.Call (.Name nmp p1) (e :: es) [] pos') X.env) :: backTo pos (starEach [] X.env))) _ _ s
  refine Calls.spliced_cons ?_
  refine wpAny_Call_Name_kw (ld_glob I hg hm ?_ hdb)
  refine PySem.W.callWith_K (h₀ := X.base) I.ok.mod.kin hk (thn (ha.run pos' pins s σ H _ I h) fun us s1 ⟨vs, H1, I1, r1, q1⟩ => ⟨I1.kIn, ?_⟩) he hpl
  obtain ⟨code, size, many, rfl, ok, hle, hq⟩ := q1
  have hl2 : us.length = 3 := r1.length.symm
  have hbt : BindsTo s1 fd ⟨us, []⟩ (pP.zip us) := by
    have := hb s1 us I1.kIn (by rw [List.append_nil]; exact hl2)
    rw [List.append_nil] at this
    exact this
  refine wpAny_call (codeAny_mono (F ok (hr.mono (by omega)) I1.env0 hbt r1) fun r s2 hq' => ?_)
  cases r with
  | error e => exact False.elim hq'
  | ok fl =>
  cases fl with
  | next => exact False.elim hq'
  | brk => exact False.elim hq'
  | cont => exact False.elim hq'
  | ret u =>
  obtain ⟨a, g, c, env, rfl, m⟩ := hq'
  refine Calls.spliced_nil ?_
  exact call_listP rfl hle hr I1 m hq
end
end Pth
/-! mathematics of the paths -/
namespace K12
/-- the first slots of a path: slot, push, how many -/
def pathN (size : Nat) : Nat → Nat → Nat → List Nat
  | _, _, 0 => []
  | slot, push, n + 1 => slot :: pathN size ((5 * slot + push / 32 + 1) % size) (push / 32) n
def first (code size many : Nat) : List Nat := pathN size (code % size) code many

theorem pathN_len (size : Nat) : ∀ (n slot push : Nat), (pathN size slot push n).length = n
  | 0, _, _ => rfl
  | n + 1, _, _ => by simp [pathN, pathN_len size n]
theorem pathN_lt {size : Nat} (h : 0 < size) : ∀ (n slot push : Nat), slot < size → ∀ x ∈ pathN size slot push n, x < size
  | 0, _, _, _, x, hx => by simp [pathN] at hx
  | n + 1, slot, push, hs, x, hx => by
    simp only [pathN, List.mem_cons] at hx
    rcases hx with rfl | hx
    · exact hs
    · exact pathN_lt h n _ _ (Nat.mod_lt _ h) x hx

/-- half the size -/
theorem pathN_half {half : Nat} (_h : 0 < half) : ∀ (n slot push s2 : Nat), s2 = slot % half → pathN half s2 push n = (pathN (2 * half) slot push n).map (· % half)
  | 0, _, _, _, _ => rfl
  | n + 1, slot, push, s2, e => by
    simp only [pathN, List.map_cons]
    rw [e]
    congr 1
    refine pathN_half _h n _ _ _ ?_
    rw [Nat.mod_mul_left_mod]
    simp [Nat.add_mod, Nat.mul_mod]
theorem first_half {half code n : Nat} (h : 0 < half) : first code half n = (first code (2 * half) n).map (· % half) := by
  refine pathN_half h n _ _ _ ?_
  rw [Nat.mod_mul_left_mod]

/-- the slots as a function -/
def slotAt (size code : Nat) : Nat → Nat
  | 0 => code % size
  | i + 1 => (5 * slotAt size code i + code / 32 ^ (i + 1) + 1) % size
theorem pathN_get (size code : Nat) : ∀ (n i : Nat), pathN size (slotAt size code i) (code / 32 ^ i) n = (List.range' i n).map (slotAt size code)
  | 0, i => rfl
  | n + 1, i => by
    simp only [pathN, List.range'_succ, List.map_cons]
    congr 1
    rw [← pathN_get size code n (i + 1)]
    rw [Nat.div_div_eq_div_mul, ← Nat.pow_succ]
    rfl
theorem first_eq (code size n : Nat) : first code size n = (List.range n).map (slotAt size code) := by
  have h := pathN_get size code n 0
  simp only [Nat.pow_zero, Nat.div_one] at h
  rw [List.range_eq_range']
  exact h

/-- behind the sixth step the pushes are 0 -/
theorem push_zero {code i : Nat} (h : code < 4294967296) (hi : 7 ≤ i) : code / 32 ^ i = 0 := by
  apply Nat.div_eq_of_lt
  refine Nat.lt_of_lt_of_le h ?_
  refine Nat.le_trans (show 4294967296 ≤ 32 ^ 7 by decide) ?_
  exact Nat.pow_le_pow_right (by decide) hi

/-! the cycle x -> 5 x + 1 modulo a power of two -/
theorem five_odd_pow (e : Nat) : 5 ^ e % 4 = 1 := by
  induction e with
  | zero => rfl
  | succ e ih => rw [Nat.pow_succ]; omega
/-- the order of 5 modulo 2 ^ (m + 2) is 2 ^ m -/
theorem order5 : ∀ (m d : Nat), 2 ^ (m + 2) ∣ 5 ^ d - 1 → 2 ^ m ∣ d
  | 0, d, _ => by simp
  | m + 1, d, h => by
    have h8 : 8 ∣ 5 ^ d - 1 := by
      refine Nat.dvd_trans ?_ h
      rw [show (8 : Nat) = 2 ^ 3 by rfl]
      exact Nat.pow_dvd_pow 2 (by omega)
    have hd : d % 2 = 0 := by
      rcases Nat.mod_two_eq_zero_or_one d with e | e
      · exact e
      · exfalso
        obtain ⟨k, rfl⟩ : ∃ k, d = 2 * k + 1 := ⟨d / 2, by omega⟩
        have h25 : 5 ^ (2 * k + 1) % 8 = 5 := by
          clear h h8 e
          induction k with
          | zero => rfl
          | succ k ih =>
            rw [show 2 * (k + 1) + 1 = (2 * k + 1) + 2 by omega, Nat.pow_add]
            rw [Nat.mul_mod, ih]
        obtain ⟨q, hq⟩ := h8
        have : 0 < 5 ^ (2 * k + 1) := Nat.pow_pos (by decide)
        omega
    obtain ⟨e, rfl⟩ : ∃ e, d = 2 * e := ⟨d / 2, by omega⟩
    have h5 := five_odd_pow e
    have hp : 0 < 5 ^ e := Nat.pow_pos (by decide)
    obtain ⟨t, ht⟩ : ∃ t, 5 ^ e = 4 * t + 1 := ⟨5 ^ e / 4, by omega⟩
    have hsq : 5 ^ (2 * e) - 1 = (5 ^ e - 1) * (2 * (2 * t + 1)) := by
      rw [Nat.two_mul, Nat.pow_add, ht]
      simp only [Nat.add_sub_cancel]
      have : (4 * t + 1) * (4 * t + 1) = 4 * t * (2 * (2 * t + 1)) + 1 := by
        simp only [Nat.mul_add, Nat.add_mul, Nat.mul_one, Nat.one_mul]
        have e1 : 4 * t * (2 * (2 * t)) = 16 * (t * t) := by
          rw [show 2 * (2 * t) = 4 * t by omega]
          rw [Nat.mul_mul_mul_comm]
        have e2 : 4 * t * (4 * t) = 16 * (t * t) := by rw [Nat.mul_mul_mul_comm]
        omega
      omega
    rw [hsq, Nat.pow_succ, Nat.mul_comm (2 ^ (m + 2)) 2] at h
    have h2 : 2 * 2 ^ (m + 2) ∣ 2 * ((5 ^ e - 1) * (2 * t + 1)) := by
      have e3 : (5 ^ e - 1) * (2 * (2 * t + 1)) = 2 * ((5 ^ e - 1) * (2 * t + 1)) := by
        rw [← Nat.mul_assoc, Nat.mul_comm (5 ^ e - 1) 2, Nat.mul_assoc]
      rw [← e3]; rw [show m + 2 = m + 1 + 1 by rfl]; exact h
    have h3 : 2 ^ (m + 2) ∣ (5 ^ e - 1) * (2 * t + 1) := Nat.dvd_of_mul_dvd_mul_left (by decide) h2
    have hco : Nat.Coprime (2 ^ (m + 2)) (2 * t + 1) := by
      apply Nat.Coprime.pow_left
      show Nat.gcd 2 (2 * t + 1) = 1
      rw [Nat.gcd_rec]
      rw [show (2 * t + 1) % 2 = 1 by omega]
      rfl
    have h4 : 2 ^ (m + 2) ∣ 5 ^ e - 1 := Nat.Coprime.dvd_of_dvd_mul_right hco h3
    have h5' := order5 m e h4
    rw [Nat.pow_succ, Nat.mul_comm]
    exact Nat.mul_dvd_mul_left 2 h5'

/-- the walk x -> 5 x + 1 modulo N from x -/
def orb (N : Nat) (x : Nat) : Nat → Nat
  | 0 => x
  | n + 1 => (5 * orb N x n + 1) % N
theorem orb_lt {N x : Nat} (h : x < N) : ∀ n, orb N x n < N
  | 0 => h
  | n + 1 => Nat.mod_lt _ (by omega)
/-- four times the place and one is a power of five times what it was -/
theorem orb_pow {N x : Nat} (h : x < N) (n : Nat) : (4 * orb N x n + 1) % (4 * N) = (5 ^ n * (4 * x + 1)) % (4 * N) := by
  induction n with
  | zero => simp [orb]
  | succ n ih =>
    have e : (4 * orb N x (n + 1) + 1) % (4 * N) = (5 * (4 * orb N x n + 1)) % (4 * N) := by
      show (4 * ((5 * orb N x n + 1) % N) + 1) % (4 * N) = _
      have h1 : 4 * ((5 * orb N x n + 1) % N) = (4 * (5 * orb N x n + 1)) % (4 * N) := (Nat.mul_mod_mul_left 4 _ N).symm
      rw [h1, Nat.mod_add_mod]
      congr 1
      omega
    rw [e, Nat.mul_mod, ih, ← Nat.mul_mod, Nat.pow_succ, ← Nat.mul_assoc, Nat.mul_comm (5 ^ n) 5]
theorem odd_dvd {m y z : Nat} (hy : y % 2 = 1) (h : 2 ^ m ∣ z * y) : 2 ^ m ∣ z := by
  refine Nat.Coprime.dvd_of_dvd_mul_right ?_ h
  apply Nat.Coprime.pow_left
  show Nat.gcd 2 y = 1
  rw [Nat.gcd_rec, hy]
  rfl
theorem orb_ne {m x i j : Nat} (hx : x < 2 ^ m) (hij : i < j) (hj : j < i + 2 ^ m) : orb (2 ^ m) x i ≠ orb (2 ^ m) x j := by
  intro e
  have hi := orb_pow hx i
  have hj' := orb_pow hx j
  rw [← e] at hj'
  rw [hi] at hj'
  obtain ⟨d, rfl⟩ : ∃ d, j = i + d := ⟨j - i, by omega⟩
  have hd0 : 0 < d := by omega
  have hle : 5 ^ i * (4 * x + 1) ≤ 5 ^ (i + d) * (4 * x + 1) := Nat.mul_le_mul_right _ (Nat.pow_le_pow_right (by decide) (by omega))
  have hdv : 4 * 2 ^ m ∣ 5 ^ (i + d) * (4 * x + 1) - 5 ^ i * (4 * x + 1) := Nat.dvd_of_mod_eq_zero (Nat.sub_mod_eq_zero_of_mod_eq hj'.symm)
  have e4 : 4 * 2 ^ m = 2 ^ (m + 2) := by rw [Nat.pow_add]; omega
  rw [e4] at hdv
  have e5 : 5 ^ (i + d) * (4 * x + 1) - 5 ^ i * (4 * x + 1) = (5 ^ d - 1) * (5 ^ i * (4 * x + 1)) := by
    rw [Nat.pow_add, Nat.sub_mul, Nat.one_mul]
    congr 1
    rw [Nat.mul_comm (5 ^ i) (5 ^ d), Nat.mul_assoc]
  rw [e5] at hdv
  have hodd : (5 ^ i * (4 * x + 1)) % 2 = 1 := by
    have h5 := five_odd_pow i
    rw [Nat.mul_mod]
    rw [show 5 ^ i % 2 = 1 by omega, show (4 * x + 1) % 2 = 1 by omega]
  have h1 := order5 m d (odd_dvd hodd hdv)
  have := Nat.le_of_dvd hd0 h1
  omega

theorem len_le : ∀ (N : Nat) (l : List Nat), l.Nodup → (∀ x ∈ l, x < N) → l.length ≤ N
  | 0, l, _, h => by
    cases l with
    | nil => exact Nat.le_refl _
    | cons a t => exact absurd (h a List.mem_cons_self) (Nat.not_lt_zero _)
  | N + 1, l, nd, h => by
    by_cases hm : N ∈ l
    · have h1 := len_le N (l.erase N) (nd.erase _) (fun x hx => by
        have hx' := (nd.mem_erase_iff).mp hx
        have := h x hx'.2
        have := hx'.1
        omega)
      rw [List.length_erase_of_mem hm] at h1
      omega
    · have h1 := len_le N l nd (fun x hx => by
        have h2 := h x hx
        have h3 : x ≠ N := fun e => hm (e ▸ hx)
        omega)
      omega
theorem all_mem : ∀ (N : Nat) (l : List Nat), l.Nodup → (∀ x ∈ l, x < N) → l.length = N → ∀ x, x < N → x ∈ l := by
  intro N l nd h hl x hx
  refine Classical.byContradiction fun hm => ?_
  have h1 := len_le N (x :: l) (List.nodup_cons.mpr ⟨hm, nd⟩) (fun y hy => by
    rcases List.mem_cons.mp hy with rfl | hy
    · exact hx
    · exact h y hy)
  rw [List.length_cons] at h1
  omega
/-- from the sixth step on a path goes round the whole cycle -/
theorem slotAt_lt {size : Nat} (h : 0 < size) (code i : Nat) : slotAt size code i < size := by
  cases i <;> exact Nat.mod_lt _ h
theorem slotAt_orb {size code : Nat} (hc : code < 4294967296) (i : Nat) : slotAt size code (6 + i) = orb size (slotAt size code 6) i := by
  induction i with
  | zero => rfl
  | succ i ih =>
    show (5 * slotAt size code (6 + i) + code / 32 ^ (6 + i + 1) + 1) % size = (5 * orb size (slotAt size code 6) i + 1) % size
    rw [ih, push_zero hc (by omega), Nat.add_zero]
def tailOf (code size : Nat) : List Nat := (first code size (size + 6)).drop 6
theorem tailOf_eq (code size : Nat) : tailOf code size = (List.range size).map fun i => slotAt size code (6 + i) := by
  unfold tailOf
  rw [first_eq, ← List.map_drop, List.range_eq_range', List.drop_range', List.range_eq_range', List.range'_eq_map_range]
  rw [List.map_map]
  rw [show size + 6 - 6 = size by omega, List.range_eq_range']
  apply List.map_congr_left
  intro a _
  simp
theorem tail_nodup {m code : Nat} (hc : code < 4294967296) : (tailOf code (2 ^ m)).Nodup := by
  rw [tailOf_eq]
  have hp : 0 < 2 ^ m := Nat.pow_pos (by decide)
  rw [List.Nodup, List.pairwise_map]
  refine List.Pairwise.imp_of_mem ?_ (List.pairwise_lt_range (n := 2 ^ m))
  intro i j hi hj hij
  rw [List.mem_range] at hi hj
  rw [slotAt_orb hc, slotAt_orb hc]
  exact orb_ne (slotAt_lt hp _ _) hij (by omega)
theorem tail_lt {size : Nat} (h : 0 < size) (code : Nat) : ∀ x ∈ tailOf code size, x < size := by
  intro x hx
  rw [tailOf_eq] at hx
  obtain ⟨i, _, rfl⟩ := List.mem_map.mp hx
  exact slotAt_lt h _ _
theorem tail_len (code size : Nat) : (tailOf code size).length = size := by rw [tailOf_eq, List.length_map, List.length_range]
theorem tail_perm {m code : Nat} (hc : code < 4294967296) : (tailOf code (2 ^ m)).Perm (List.range (2 ^ m)) := by
  have hp : 0 < 2 ^ m := Nat.pow_pos (by decide)
  refine (List.perm_ext_iff_of_nodup (tail_nodup hc) List.nodup_range).mpr fun x => ⟨fun hx => ?_, fun hx => ?_⟩
  · exact List.mem_range.mpr (tail_lt hp code x hx)
  · exact all_mem _ _ (tail_nodup hc) (tail_lt hp code) (tail_len _ _) x (List.mem_range.mp hx)
theorem first_mem {m code : Nat} (hc : code < 4294967296) (x : Nat) : x ∈ first code (2 ^ m) (2 ^ m + 6) ↔ x < 2 ^ m := by
  have hp : 0 < 2 ^ m := Nat.pow_pos (by decide)
  constructor
  · intro hx
    exact pathN_lt hp _ _ _ (Nat.mod_lt _ hp) x hx
  · intro hx
    have : x ∈ tailOf code (2 ^ m) := (tail_perm hc).symm.subset (List.mem_range.mpr hx)
    exact List.mem_of_mem_drop this

/-! what two codes share -/
theorem slots_same {size a b : Nat} : ∀ (i : Nat), (∀ j, j ≤ i → a / 32 ^ j % size = b / 32 ^ j % size) → slotAt size a i = slotAt size b i
  | 0, h => by
    have := h 0 (Nat.le_refl _)
    simpa [slotAt] using this
  | i + 1, h => by
    have ih := slots_same i (fun j hj => h j (by omega))
    have h1 := h (i + 1) (Nat.le_refl _)
    show (5 * slotAt size a i + a / 32 ^ (i + 1) + 1) % size = (5 * slotAt size b i + b / 32 ^ (i + 1) + 1) % size
    rw [ih, Nat.add_assoc, Nat.add_assoc, Nat.add_mod, Nat.add_mod _ (b / 32 ^ (i + 1) + 1), Nat.add_mod (a / 32 ^ (i + 1)), Nat.add_mod (b / 32 ^ (i + 1)), h1]
theorem step_same {size a b i : Nat} (hs : 0 < size) (h : slotAt size a i = slotAt size b i) : slotAt size a (i + 1) = slotAt size b (i + 1) ↔ a / 32 ^ (i + 1) % size = b / 32 ^ (i + 1) % size := by
  show (5 * slotAt size a i + a / 32 ^ (i + 1) + 1) % size = (5 * slotAt size b i + b / 32 ^ (i + 1) + 1) % size ↔ _
  rw [h]
  have e : ∀ c : Nat, 5 * slotAt size b i + c + 1 = (5 * slotAt size b i + 1) + c := fun c => by omega
  rw [e, e]
  constructor
  · intro q
    have : ∀ x y d : Nat, (d + x) % size = (d + y) % size → x % size = y % size := by
      intro x y d q
      have h1 : ((d + x : Nat) : Int) % size = ((d + y : Nat) : Int) % size := by exact_mod_cast q
      have h2 : ((x : Nat) : Int) % size = ((y : Nat) : Int) % size := by
        have h3 : (size : Int) ∣ ((d + x : Nat) : Int) - ((d + y : Nat) : Int) := Int.dvd_of_emod_eq_zero (Int.emod_eq_emod_iff_emod_sub_eq_zero.mp h1)
        apply Int.emod_eq_emod_iff_emod_sub_eq_zero.mpr
        apply Int.emod_eq_zero_of_dvd
        have e3 : ((d + x : Nat) : Int) - ((d + y : Nat) : Int) = (x : Int) - y := by omega
        rw [← e3]; exact h3
      exact_mod_cast h2
    exact this _ _ _ q
  · intro q
    rw [Nat.add_mod, q, ← Nat.add_mod]
/-- codes that are equal modulo size * 32 ^ k share k + 1 slots -/
theorem share {size a b k : Nat} (h : a % (size * 32 ^ k) = b % (size * 32 ^ k)) : ∀ i, i ≤ k → slotAt size a i = slotAt size b i := by
  intro i hi
  refine slots_same i fun j hj => ?_
  have e : size * 32 ^ k = 32 ^ j * (size * 32 ^ (k - j)) := by
    have : 32 ^ k = 32 ^ j * 32 ^ (k - j) := by rw [← Nat.pow_add]; congr 1; omega
    rw [this, ← Nat.mul_assoc, Nat.mul_comm size, Nat.mul_assoc]
  have h1 : a % (32 ^ j * (size * 32 ^ (k - j))) / 32 ^ j = b % (32 ^ j * (size * 32 ^ (k - j))) / 32 ^ j := by rw [← e, h]
  rw [Nat.mod_mul_right_div_self, Nat.mod_mul_right_div_self] at h1
  have h2 : a / 32 ^ j % (size * 32 ^ (k - j)) % size = b / 32 ^ j % (size * 32 ^ (k - j)) % size := by rw [h1]
  rw [Nat.mod_mul_right_mod, Nat.mod_mul_right_mod] at h2
  exact h2
theorem first_take {a size n k : Nat} (h : k ≤ n) : (first a size n).take k = (List.range k).map (slotAt size a) := by
  rw [first_eq, ← List.map_take, List.take_range]
  rw [Nat.min_eq_left h]
/-- two starts of paths are equal: slot by slot -/
theorem take_same {a b size n k : Nat} (h : k ≤ n) : (first a size n).take k = (first b size n).take k ↔ ∀ i, i < k → slotAt size a i = slotAt size b i := by
  rw [first_take h, first_take h]
  constructor
  · intro q i hi
    have := List.map_inj_left.mp q i (List.mem_range.mpr hi)
    exact this
  · intro q
    exact List.map_congr_left fun i hi => q i (List.mem_range.mp hi)
/-- the law's question at a turn -/
theorem turn_same {a b size n k : Nat} (hs : 0 < size) (h : k + 1 ≤ n) (q : (first a size n).take k = (first b size n).take k) :
    ((first a size n).take (k + 1) = (first b size n).take (k + 1)) ↔ a / 32 ^ k % size = b / 32 ^ k % size := by
  rw [take_same (by omega)] at q ⊢
  cases k with
  | zero =>
    constructor
    · intro z
      have := z 0 (by omega)
      simpa [slotAt] using this
    · intro z i hi
      obtain rfl : i = 0 := by omega
      simpa [slotAt] using z
  | succ k =>
    have hk := q k (by omega)
    constructor
    · intro z
      exact (step_same hs hk).mp (z (k + 1) (by omega))
    · intro z i hi
      by_cases e : i < k + 1
      · exact q i e
      · obtain rfl : i = k + 1 := by omega
        exact (step_same hs hk).mpr z
end K12
set_option Elab.async false
set_option linter.all false
set_option maxRecDepth 100000
set_option maxHeartbeats 1000000
/-! Xo: own exception classes whose __init__ stores one field, over any built-in base: made as a value, raised, kept, asked for their class, their field read -/
namespace Xo
open PySem PySem.Spec PyProof.Rows L2 Builtin Builtin.ObjectAttr
/-- what the written part says of the class at C -/
structure XC (K : PySem.W.Frag) (C : Addr) : Prop where
  base : ∃ (B newId initId : String) (bmB : List Value), ExcBaseFacts B newId initId bmB ∧ StoreFacts B bmB "object.__setattr__" "object" ∧ PySem.W.excInitIn K C bmB newId = true ∧ PySem.W.excOver K C bmB = true
  hd : PySem.W.hasDictIn K C = true
  sa : PySem.W.findIn K (.ref C) "__setattr__" = some (some (.builtin "object.__setattr__"))
  ga : PySem.W.findIn K (.ref C) "__getattribute__" = some (some (.builtin "BaseException.__getattribute__"))
  gg : PySem.W.findIn K (.ref C) "__getattr__" = some none
  exC : PySem.W.subIn K (.ref C) (.type "BaseException") = some true
  tyC : PySem.W.typeIn K (.ref C) = some (.type "type")
  kC : PySem.W.keepIn K (.ref C) = true
section
variable {X : Cx} {pins : List (Addr × Obj)} {σ : L2.St} {H : Hp} {s : Shared} {a C : Addr} {f : Str} {y : V} {u : Value} {E : Value → Shared → Prop} {A : Around}
/-- the first store into a fresh exception -/
theorem store1 {K : PySem.W.Frag} {prog : Program} {w : World} {name : Str} {tk : Tok} {v : Value} {x : Addr} {fv : Array Value} {R : Result → Shared → Prop} (T : XC K C) (X : K.In s.heap)
    (hx : s.heap.get? x = some { cls := .ref C, data := .fields fv }) (hno : PySem.W.findIn K (.ref C) name = some none)
    (hq : ∀ h' tk' dx, (∀ b o, b ≠ x → s.heap.get? b = some o → h'.get? b = some o) → s.heap.objs.size ≤ dx → dx ≠ x → h'.get? x = some { cls := .ref C, dict := some dx, data := .fields fv } →
      h'.Ns1 dx (fun y => if y = name then some v else none) → R (.ok (.ret .none)) { s with heap := h', toks := tk' }) :
    codeAny (model prog w) A (.call (.builtin "object.__setattr__") ⟨[.ref x, .str name tk, v], []⟩) R s := by
  obtain ⟨B, newId, initId, bmB, fb, sf, ii, ov⟩ := T.base
  obtain ⟨cd, hc, hdd⟩ := PySem.W.any_some T.hd
  have I : PySem.W.InstAt s.heap x { cls := .ref C, data := .fields fv } C none := ⟨hx, rfl, rfl, trivial⟩
  refine PySem.W.osa_openX (r := none) sf X I ov (show PySem.W.takerIn K C name = some none from NoAttr.taker hno) fun b => ?_
  have hcls : PySem.W.Looks (model prog w) s.heap (classData C) cd := PySem.W.looks_clsIn X hc
  have hxs : x ≠ s.heap.objs.size := Nat.ne_of_lt (Heap.lt_size hx)
  have hdd' : cd.hasDict = true := hdd
  obtain ⟨nm, bs, mro, ns, qn, hd, sn, sb, ab, col, del⟩ := cd
  dsimp only at hdd'
  subst hdd'
  obtain ⟨hp, g, d, t, os⟩ := s
  dsimp only
  unfold storeInOwnDict ownDictForStores
  repeat (first | with_reducible refine HandSPX.store_in_new ?_ ?_ | with_reducible refine wpAny_loadPart_at hx ?_ | with_reducible refine hcls.at ?_ | wp_step)
  · exact ⟨_, #[], _, (Heap.get?_update_ne _ _ _ _ (Ne.symm hxs)).trans (Heap.get?_push_at rfl rfl), rfl, fun e z => absurd z (by simp), fun _ => rfl⟩
  · intro h1 tk1 n1 sb1
    have hx1 : (hp.push { cls := .type "dict", data := .dict #[] }).get? x = some { cls := .ref C, data := .fields fv } := Heap.get?_push_of_some _ hx
    exact hq h1 tk1 hp.objs.size (fun b o hb z => (sb1.2 b (Nat.ne_of_lt (Heap.lt_size z))).trans ((Heap.get?_update_ne _ _ _ _ hb).trans (Heap.get?_push_of_some _ z))) (Nat.le_refl _) (Ne.symm hxs) ((sb1.2 x hxs).trans (Heap.get?_update_self _ hx1 rfl)) n1
theorem ost1 {Q : Unit → Shared → Prop} (T : XC X.K C) (I : Inv X pins σ H s) (e : H a = some (exo a C none)) (hno : PySem.W.findIn X.K (.ref C) f = some none) (ry : RelV y u)
    (h : ∀ dx s', H dx = none → dx ≠ a → Inv X pins σ (upd (upd H a (exo a C (some dx))) dx (exd dx [(f, y)])) s' → Q () s') : wpAny (model X.prog X.w) A (setAttr (.ref a) f u) Q E s := by
  obtain ⟨t1, ho⟩ := exo_at I.hok e
  obtain ⟨h0, g, d, t, os⟩ := s
  refine PySem.W.set_plain I.kIn (od := none) ⟨ho, rfl, rfl, trivial⟩ T.sa ?_
  refine store1 T I.kIn ho hno fun h1 tk1 dx k dn dne hx hn => ?_
  have hnd : H dx = none := I.hok.fresh dn
  have J := I.write (t' := tk1) (x := a) (e := a) (o := exo a C (some dx)) (by rw [e]; exact True.intro) (.inl rfl) k ⟨_, hx⟩ (exo_ok hx)
  have fp : FpOk X pins (upd H a (exo a C (some dx))) dx := I.fpOk dn (by rw [upd_ne dne]; exact hnd)
  obtain ⟨o, es, ep, hob, hr⟩ := id hn
  exact h dx _ hnd dne (Pth.inv_track J fp ⟨o, hob⟩ (exd_ok hn (relO_put (fs := []) ry fun _ => True.intro)))
end
/-- self.f = v in such an __init__ -/
def tOst1 (f : Str) (to te : TE) (K : PySem.W.Frag) : TS := fun D σ H => te σ H fun y H1 => to σ H1 fun x H2 => ∃ a C : Addr, x = .ref a ∧ XC K C ∧ PySem.W.findIn K (.ref C) f = some none ∧ H2 a = some (exo a C none) ∧
  ∀ dx, H2 dx = none → dx ≠ a → D.nx σ (upd (upd H2 a (exo a C (some dx))) dx (exd dx [(f, y)]))
theorem ps_ost1 {X : Cx} {o e : Expr} {to te : TE} {f : Str} {p' pos : Pos} (ho : PE X o to) (he : PE X e te) (hs : swapsWith e (some (.Attribute o f p')) pos.line X.env = pure false := by rfl) : PS X (.Assign [.Attribute o f p'] e pos) (tOst1 f to te X.K) := by
  refine ⟨fun pins s σ H D I h => ?_⟩
  refine plainObj_wpAny_Assign_Attribute (thn (he.run pins s σ H _ I h) fun v s1 ⟨y, H1, I1, r1, q1⟩ => thn (ho.run pins s1 σ H1 _ I1 q1) fun u s2 ⟨x, H2, I2, r2, a, C, ex, T, hno, ea, q⟩ => ?_) hs
  subst ex
  cases (show u = Value.ref a from r2)
  exact ost1 T I2 ea hno r1 fun dx s3 n ne J => ⟨σ, _, J, q dx n ne⟩
/-- the promise of such an __init__ -/
def spXI (K : PySem.W.Frag) (f : Str) : Sp := fun vs H Q _ => ∃ (a C : Addr) (v : V), vs = [.ref a, v] ∧ XC K C ∧ PySem.W.findIn K (.ref C) f = some none ∧ H a = some (exo a C none) ∧
  ∀ d, H d = none → d ≠ a → Q .non (upd (upd H a (exo a C (some d))) d (exd d [(f, v)]))
theorem ok_xinit {P : Program} {w : World} {K : PySem.W.Frag} {mg : Str → Option Value} {base : Heap} {qual fld : Str} {st : Stmt} {fa : Addr} {fd : FuncData} {p1 p2 p3 p4 : Pos} (F : Fun K "__init__" qual st fa fd) (S : FnScope ["self", fld] ["self", fld] (defScope st))
    (hb : defBody st = [.Assign [.Attribute (.Name "self" p1) fld p2] (.Name fld p3) p4]) (hd1 : (fld == ("__debug__" : Str)) = false) (hd2 : (fld == ("__classdict__" : Str)) = false) : FnOk P w K mg base CX0 1 fa fd ["self", fld] (spXI K fld) := by
  refine F.ok S (fun vs H Q E h => ?_) (fun cdv A outer s H vs Q E hr h => ?_)
  · obtain ⟨a, C, v, rfl, _⟩ := h
    rfl
  · obtain ⟨a, C, v, rfl, T, hno, ea, k⟩ := h
    rw [hb]
    refine ⟨_, pss_one (ps_ost1 (pe_var (i := 0) rfl ((S.par "self" (by simp)).elim (fun z => .inl z) (fun z => .inr (.inl z)))) (pe_var (i := 1) rfl ((S.par fld (by simp)).elim (fun z => .inl z) (fun z => .inr (.inl z))) hd1 hd2)), ?_⟩
    exact ⟨v, rfl, .ref a, rfl, a, C, rfl, T, hno, ea, fun d hd hne => k d hd hne⟩
/-- the class's own def __init__, promised -/
structure XI (X : Cx) (C : Addr) (fld : Str) : Prop where
  T : XC X.K C
  no : PySem.W.findIn X.K (.ref C) fld = some none
  ini : ∃ (fI : Addr) (fd : FuncData), PySem.W.findIn X.K (.ref C) "__init__" = some (some (.ref fI)) ∧ PySem.W.typeIn X.K (.ref fI) = some (.type "function") ∧ Binds X.K fd ["self", fld] [] ∧ FnOk X.prog X.w X.K X.mg X.base CX0 1 fI fd ["self", fld] (spXI X.K fld)
section
variable {X : Cx} {pins : List (Addr × Obj)} {σ : L2.St} {H : Hp} {s : Shared} {C : Addr} {fld x : Str} {v : V} {u : Value} {e : Expr} {te : TE} {p pos : Pos}
theorem upd2 {H : Hp} {a : Addr} {o o' : HO} : upd (upd H a o) a o' = upd H a o' := by
  funext b
  unfold upd
  split <;> rfl
/-- the two objects behind the call's start -/
abbrev xHeap (h : Heap) (us : List Value) (C : Addr) : Heap := (h.push (PySem.W.kdv_tup us)).push (HandSPX.excO C h.objs.size)
theorem inv_start_x (I : Inv X pins σ H s) (us : List Value) : H (s.heap.objs.size + 1) = none ∧ (∀ b o, s.heap.get? b = some o → (xHeap s.heap us C).get? b = some o) ∧
    Inv X pins σ (upd H (s.heap.objs.size + 1) (exo (s.heap.objs.size + 1) C none)) { s with heap := xHeap s.heap us C } := by
  have hsz : s.heap.objs.size ≤ s.heap.objs.size + 1 := Nat.le_succ _
  have kk : ∀ b o, s.heap.get? b = some o → (xHeap s.heap us C).get? b = some o := fun b o q => Heap.get?_push_of_some _ (Heap.get?_push_of_some _ q)
  have hg : (xHeap s.heap us C).get? (s.heap.objs.size + 1) = some (HandSPX.excO C s.heap.objs.size) := by heap_get
  exact ⟨I.hok.fresh hsz, kk, I.laid (t' := s.toks) (o := exo (s.heap.objs.size + 1) C none) kk hsz (exo_ok hg)⟩
/-- C(v), the call -/
theorem run_x {R : Result → Shared → Prop} (T : XI X C fld) (hr : Room 2 X.A) (I : Inv X pins σ H s) (rv : RelV v u) {Q1 : VK}
    (hq1 : ∀ d, H d = none → d ≠ s.heap.objs.size + 1 → Q1 .non (upd (upd H (s.heap.objs.size + 1) (exo (s.heap.objs.size + 1) C (some d))) d (exd d [(fld, v)])))
    (hR : ∀ s', CE X.stack X.prog X.w (upd H (s.heap.objs.size + 1) (exo (s.heap.objs.size + 1) C none)) { s with heap := xHeap s.heap [u] C } Q1 .none s' → R (.ok (.ret (.ref (s.heap.objs.size + 1)))) s')
    (hQn : ∀ v' H', Q1 v' H' → v' = .non) : codeAny (model X.prog X.w) X.A (.call (.ref C) ⟨[u], []⟩) R s := by
  obtain ⟨hn, kk, I2⟩ := inv_start_x (C := C) I [u]
  obtain ⟨fI, fd, iC, tI, hb, F1⟩ := T.ini
  obtain ⟨B, newId, initId, bmB, fb, sf, ii, ov⟩ := T.T.base
  obtain ⟨nm, N, qn, bs, bm, hdct, sn, sub, ab, col, dd, k0, k1, k2, k3, k5, hC, hT⟩ := PySem.W.excInit_of I.kIn ii
  have hsp : spXI X.K fld [V.ref (s.heap.objs.size + 1), v] (upd H (s.heap.objs.size + 1) (exo (s.heap.objs.size + 1) C none)) Q1 E0 := by
    refine ⟨_, C, v, rfl, T.T, T.no, upd_same, fun d hd hne => ?_⟩
    rw [upd2]
    exact hq1 d (by rwa [upd_ne hne] at hd) hne
  obtain ⟨h0, g, dr, tk, os⟩ := s
  refine HandSPX.call_own fb hT hC (PySem.W.looks_findIn I.kIn iC) (fun self => PySem.W.bind_fn I.kIn self tI) (show 1 ≤ sizeLine by decide)
    (codeAny_mono (F1.run _ X.stack _ _ ⟨[Value.ref (h0.objs.size + 1), u], []⟩ [Value.ref (h0.objs.size + 1), u] [V.ref (h0.objs.size + 1), v] Q1 E0 (hr.make C [u] []) (I2.env0.make C [u] []) (hb _ [Value.ref (h0.objs.size + 1), u] I2.kIn rfl) (.cons (show L2.RelV (V.ref (h0.objs.size + 1)) (Value.ref (h0.objs.size + 1)) from rfl) (.cons rv .nil)) hsp) fun r s' hq' => ?_)
  cases r with
  | error er => exact (show False from hq').elim
  | ok fl =>
    cases fl with
    | ret u' =>
      have hq2 := hq'
      obtain ⟨v', H', os', bare', un', hok', rv', q'⟩ := hq'
      have ev := hQn _ _ q'
      subst ev
      cases rv'
      exact ⟨rfl, hR s' hq2⟩
    | next => exact False.elim hq'
    | brk => exact False.elim hq'
    | cont => exact False.elim hq'
/-- C(e), as a value: a new exception at a, its dict at d -/
def tXmk (C : Addr) (fld : Str) (ta : TA) : TE := fun σ H Q => ta σ H fun vs H1 => ∃ v, vs = [v] ∧ ∀ a d, H1 a = none → H1 d = none → d ≠ a → Q (.ref a) (upd (upd H1 a (exo a C (some d))) d (exd d [(fld, v)]))
theorem pe_xmk {es : List Expr} {ta : TA} (T : XI X C fld) (hr : Room 2 X.A) (hg : Gl X x) (hm : X.mg x = some (.ref C)) (ha : PA X (e :: es) ta) (hdb : (x == ("__debug__" : Str)) = false := by decide)
    (hst : starEach (e :: es) X.env = (false, eval e X.env) :: starEach es X.env := by rfl) (hpl : (backTo pos (starEach es X.env)).any (·.1) = false := by rfl) : PE X (.Call (.Name x p) (e :: es) [] pos) (tXmk C fld ta) := by
  refine ⟨fun pins s σ H Q I h => ?_⟩
  refine wpAny_Call_Name_kw (ld_glob I hg hm ?_ hdb)
  refine PySem.W.callWith_K (h₀ := X.base) I.ok.mod.kin T.T.kC (thn (ha.run pos pins s σ H _ I h) fun us s1 ⟨vs, H1, I1, r1, v, ev, q1⟩ => ⟨I1.kIn, ?_⟩) hst hpl
  subst ev
  obtain ⟨u, rfl, ru⟩ := r1.one
  obtain ⟨hn, kk, I2⟩ := inv_start_x (C := C) I1 [u]
  refine wpAny_call (run_x (Q1 := fun v' H' => v' = .non ∧ Q (.ref (s1.heap.objs.size + 1)) H') T hr I1 ru (fun d hd hne => ⟨rfl, q1 _ d hn hd hne⟩) (fun s' c => ?_) fun v' H' q => q.1)
  obtain ⟨v', H', I3, _, _, q⟩ := I2.after c
  exact ⟨.ref (s1.heap.objs.size + 1), H', I3, rfl, q⟩
/-- C(e), to be raised -/
def tXraise (C : Addr) (fld : Str) (ta : TA) : L2.St → Hp → XK → Prop := fun σ H Q => ta σ H fun vs H1 => ∃ v, vs = [v] ∧ ∀ d, H1 d = none → Q (.ref C) (some d) (upd H1 d (.xd [(fld, v)]))
theorem pmk_x {es : List Expr} {ta : TA} (T : XI X C fld) (hr : Room 2 X.A) (hg : Gl X x) (hm : X.mg x = some (.ref C)) (ha : PA X (e :: es) ta) (hdb : (x == ("__debug__" : Str)) = false := by decide)
    (hst : starEach (e :: es) X.env = (false, eval e X.env) :: starEach es X.env := by rfl) (hpl : (backTo pos (starEach es X.env)).any (·.1) = false := by rfl) : PMk X (.Call (.Name x p) (e :: es) [] pos) (tXraise C fld ta) := by
  intro pins s σ H Q I h
  refine wpAny_Call_Name_kw (ld_glob I hg hm ?_ hdb)
  refine PySem.W.callWith_K (h₀ := X.base) I.ok.mod.kin T.T.kC (thn (ha.run pos pins s σ H _ I h) fun us s1 ⟨vs, H1, I1, r1, v, ev, q1⟩ => ⟨I1.kIn, ?_⟩) hst hpl
  subst ev
  obtain ⟨u, rfl, ru⟩ := r1.one
  obtain ⟨hn, kk, I2⟩ := inv_start_x (C := C) I1 [u]
  refine wpAny_call (run_x (Q1 := fun v' H' => v' = .non ∧ ∃ d, H1 d = none ∧ d ≠ s1.heap.objs.size + 1 ∧ H' = upd (upd H1 (s1.heap.objs.size + 1) (exo (s1.heap.objs.size + 1) C (some d))) d (exd d [(fld, v)])) T hr I1 ru
    (fun d hd hne => ⟨rfl, d, hd, hne, rfl⟩) (fun s' c => ?_) fun v' H' q => q.1)
  obtain ⟨v', H', os', bare', un', hok', rv', ev, d, hd, hne, eH⟩ := c
  subst eH
  obtain ⟨h0, g, dr, tk, os⟩ := s1
  obtain ⟨h2, g2, d2, t2, os2⟩ := s'
  have eD : upd (del (upd (upd H1 (h0.objs.size + 1) (exo (h0.objs.size + 1) C (some d))) d (exd d [(fld, v)])) (h0.objs.size + 1)) d (.xd [(fld, v)]) = upd H1 d (.xd [(fld, v)]) := by
    funext b
    by_cases hb : b = d
    · rw [hb, upd_same, upd_same]
    · rw [upd_ne hb, upd_ne hb]
      by_cases hb2 : b = h0.objs.size + 1
      · rw [hb2, del_same]
        exact hn.symm
      · rw [del_ne hb2, upd_ne hb, upd_ne hb2]
  exact mk_end (raises_own T.T.exC T.T.tyC) I1 (Nat.le_succ _) kk un' hok' os' bare' (by rw [upd_ne (Ne.symm hne), upd_same]) upd_same hd (by rw [eD]; exact q1 d hd)
end
end Xo
set_option Elab.async false
set_option linter.all false
set_option maxRecDepth 100000
set_option maxHeartbeats 1000000
/-! Xt: try: .. except (A, B, C) as n: e = n, the exception kept -/
namespace Xo
open PySem PySem.Spec PyProof.Rows L2
/-- an exception that is kept: its class, its dict -/
def xob (a : Addr) (cls : Value) (d : Option Addr) : HO := .ext fun h => ∃ o vs, h.get? a = some o ∧ Zc cls d o ∧ o.data = .fields vs
theorem xob_ok {P : Program} {w : World} {H : Hp} {h : Heap} {a : Addr} {cls : Value} {d : Option Addr} {o : Obj} {vs : Array Value} (e : h.get? a = some o) (z : Zc cls d o) (f : o.data = .fields vs) : ObjOk P w H h a (xob a cls d) :=
  ⟨⟨o, vs, e, z, f⟩, ⟨o, e⟩, fun h1 h2 ⟨o', vs', e', z', f'⟩ k => ⟨o', vs', k _ e', z', f'⟩⟩
section
variable {X : Cx} {pins : List (Addr × Obj)} {σ : L2.St} {H : Hp} {s : Shared}
/-- tracked from now on, what the entry's heap had not -/
theorem inv_trackN {a : Addr} {o : HO} (I : Inv X pins σ H s) (h0 : X.s_0.heap.get? a = none) (hn : H a = none) (nL : a ≠ X.env.locals) (nC : ∀ y c, X.env.cells.lookup y = some c → c ≠ a) (nP : ∀ p ∈ X.pn ++ pins, p.1 ≠ a)
    (new : ObjOk X.prog X.w (upd H a o) s.heap a o) : Inv X pins σ (upd H a o) s := by
  have nt : ∀ {b u}, H b = some u → b ≠ a := fun {b u} e => ne_of_none e hn
  have n0 : ∀ {b u}, X.s_0.heap.get? b = some u → b ≠ a := fun {b u} e z => by
    rw [z, h0] at e
    cases e
  refine ⟨I.ok, I.os, I.bare, ⟨I.base.keep, I.base.slot, fun b u e n x => ?_, I.base.there, fun b xs e => ?_, fun b u v e => ?_, fun b ps e => ?_⟩, I.loc, I.cell, ?_, fun y c e => ?_, fun p hp => ?_, fun b u e => ?_, I.len⟩
  · rw [upd_ne (n0 e)]
    exact I.base.free b u e n x
  · have q := I.base.tups b xs e
    rw [upd_ne (nt q)]
    exact q
  · have q := I.base.frzs b u v e
    rw [upd_ne (nt q)]
    exact q
  · obtain ⟨more, q⟩ := I.base.tbls b ps e
    exact ⟨more, by rw [upd_ne (nt q)]; exact q⟩
  · rw [upd_ne (Ne.symm nL)]
    exact I.free
  · rw [upd_ne (nC y c e)]
    exact I.freeC y c e
  · obtain ⟨q1, q2, q3⟩ := I.pin p hp
    exact ⟨q1, by rw [upd_ne (nP p hp)]; exact q2, q3⟩
  · by_cases hb : b = a
    · rw [hb, upd_same] at e
      cases e
      rw [hb]
      exact new
    · rw [upd_ne hb] at e
      exact (I.hok b u e).stay (fun _ _ _ q => q) (fun c q => by rw [upd_ne (nt q)]; exact q) fun c xs q => by rw [upd_ne (nt q)]; exact q
theorem fl_keeps {B h h2 : Heap} {l : List Env} {a : Addr} {Z : Obj → Prop} (f : HandSPX.FlyingZ B l a Z h) (k : ∀ b o, h.get? b = some o → h2.get? b = some o) : HandSPX.FlyingZ B l a Z h2 := by
  obtain ⟨k1, k2, k3, oe, vs, T, oT, ts, e1, e2, e3, e4, e5, e6, e7, e8, e9⟩ := f
  exact ⟨fun b o q => k b o (k1 b o q), k2, Heap.FunFrames.of_keeps (fun b o e _ => ⟨o, k b o e, rfl⟩) k3, oe, vs, T, oT, ts, k _ _ e1, e2, e3, e4, e5, e6, k _ _ e7, e8, e9⟩
end
/-- what the clause wishes of an exception of the body -/
def wKeep (K : PySem.W.Frag) (cs : List Value) (i j : Nat) (D : Ends) : WX := fun cls d σ H => PySem.W.exmAny K cls cs = some true ∧ ∀ a, H a = none → D.nx (((σ.set i (some (.ref a))).set j (some (.ref a))).set i none) (upd H a (xob a cls d))
section
variable {X : Cx} {n y x1 x2 x3 : Str} {C1 C2 C3 : Addr} {i j k : Nat} {body : List Stmt} {q1 q2 q3 qt py pn pa pos pos' : Pos} {tb : WX → TS}
theorem ps_try_keep (hs : X.stack = X.env :: X.outer) (hf : X.env.frame = some X.env.locals) (hex : X.ex = []) (hN : X.N.Nodup) (hi : X.N[i]? = some n) (hln : X.env.kindOf n = some .local) (hj : X.N[j]? = some y) (hlj : X.env.kindOf y = some .local)
    (g1 : Gl X x1 ∧ X.mg x1 = some (.ref C1) ∧ (x1 == ("__debug__" : Str)) = false) (g2 : Gl X x2 ∧ X.mg x2 = some (.ref C2) ∧ (x2 == ("__debug__" : Str)) = false) (g3 : Gl X x3 ∧ X.mg x3 = some (.ref C3) ∧ (x3 == ("__debug__" : Str)) = false)
    (hdn : (n == ("__debug__" : Str)) = false) (hdc : (n == ("__classdict__" : Str)) = false)
    (hb : ∀ (W : WX) (pn : List (Addr × Obj)) (xe : Value → Shared → Prop), Takes (X.tr pn xe) W → PassesOwn (model X.prog X.w) X.A X.env xe → PSs (X.tr pn xe) body (tb W)) :
    PS X (.Try body [.ExceptHandler (some (.Tuple [.Name x1 q1, .Name x2 q2, .Name x3 q3] k qt)) (some n) [.Assign [.Name y py] (.Name n pn) pa] pos'] [] [] pos)
      (fun D σ H => tb (wKeep X.K [.ref C1, .ref C2, .ref C3] i j D) D σ H) := by
  refine ⟨fun pins s σ H D I h => ?_⟩
  have okX := I.ok
  have frX : X.A.frames = some (X.env :: X.outer) := by rw [okX.frames, hs]
  have locN : Loc X.env.scope n := .inl hln
  refine wpAny_Try_except ?_
  refine wpAny_mono ((hb (wKeep X.K [.ref C1, .ref C2, .ref C3] i j D) (X.pn ++ pins) (fun e t1 => wpAny (model X.prog X.w) X.A (noteFrame e X.env) (fun _ t2 => wpAny (model X.prog X.w) X.A (setFlight e none)
    (fun _ t3 => wpAny (model X.prog X.w) X.A (handleBy e X.env [.ExceptHandler (some (.Tuple [.Name x1 q1, .Name x2 q2, .Name x3 q3] k qt)) (some n) [.Assign [.Name y py] (.Name n pn) pa] pos']) (SP X pins D) X.xe t3) X.xe t2) X.xe t1)
    (fun u t xx => ?_) PassesOwn.looking).run [] s σ H D (I.toTry _) h) (fun fl t hsp => ?_) (fun e t he => he)
  · obtain ⟨a, B, t0, pins', σ', H', cls, d, rfl, J', nb, up, sky, na, hos, hag, hany, hnx⟩ := xx
    have J : Inv X pins σ' H' t0 := J'.ofTry okX
    have sky2 : Sky B (X.env :: X.outer) a (Zc cls d) X.env.locals t.heap := by rw [← hs]; exact sky
    show wpAny (model X.prog X.w) X.A (noteFrame (.ref a) X.env) _ _ _
    refine Sky.land Zc.steady frX hf sky2 fun h3 fl3 up3 => ?_
    have J3 : Inv X pins σ' H' { t with heap := h3 } := J.landed nb fl3.1 (up.trans up3) hos hag
    obtain ⟨o3, vs3, he3, hz3, hd3⟩ := fl3.there
    have nfr : a ∉ frs (X.env :: X.outer) := fun hm => by
      obtain ⟨_, o', e', hnf⟩ := fl3.2.2.1.mem hm
      rw [he3] at e'
      cases e'
      exact hnf _ hd3
    have nL : a ≠ X.env.locals := fun z => nfr (List.mem_filterMap.mpr ⟨X.env, List.mem_cons_self, by rw [hf, z]⟩)
    have nF : a ∉ X.fs := fun hm => by
      obtain ⟨e, he, q⟩ := List.mem_filterMap.mp hm
      exact nfr (List.mem_filterMap.mpr ⟨e, List.mem_cons_of_mem _ he, q⟩)
    have S3 := J3.suite he3 hd3 na nL nF
    -- the tuple of the classes
    refine wpAny_handleBy_cons (codeAny_handlers_test ?_) (by intro q; cases q)
    refine wpAny_Tuple (wpAny_items_cons (ld_glob (X := X.suite a ((a, o3) :: (X.pn ++ pins))) S3 g1.1 g1.2.1 (wpAny_items_cons (ld_glob (X := X.suite a ((a, o3) :: (X.pn ++ pins))) S3 g2.1 g2.2.1
      (wpAny_items_cons (ld_glob (X := X.suite a ((a, o3) :: (X.pn ++ pins))) S3 g3.1 g3.2.1 (wpAny_items_nil ⟨(show 3 ≤ sizeLine by decide), ?_⟩) g3.2.2)) g2.2.2)) g1.2.2))
    have kp : ∀ b o, h3.get? b = some o → (h3.push { cls := .type "tuple", data := .seq [Value.ref C1, .ref C2, .ref C3].toArray }).get? b = some o := fun _ _ z => Heap.get?_push_of_some _ z
    have htp : (h3.push { cls := .type "tuple", data := .seq [Value.ref C1, .ref C2, .ref C3].toArray }).get? h3.objs.size = some { cls := .type "tuple", data := .seq [Value.ref C1, .ref C2, .ref C3].toArray } := Heap.get?_push_size h3 rfl
    show wpAny _ _ (excMatches (.ref a) (.ref h3.objs.size)) _ _ { t with heap := h3.push { cls := .type "tuple", data := .seq [Value.ref C1, .ref C2, .ref C3].toArray } }
    generalize h3.push { cls := .type "tuple", data := .seq [Value.ref C1, .ref C2, .ref C3].toArray } = h4 at kp htp
    have fl4 := fl_keeps fl3 kp
    have he4 := kp _ _ he3
    have LT : PySem.W.Looks (model X.prog X.w) h4 (typeOf (.ref a)) cls := fun A Q E s k q => wpAny_typeOf_ref (k _ _ he4) (by rw [hz3.1]; exact q)
    refine (PySem.W.exm_tup3 (M := model X.prog X.w) (J3.kIn.keeps kp) LT htp hany).here ?_
    refine codeAny_handlers_suite_as ?_
    refine HandSPX.lands_againZ fl4 fun h5 fl5 up5 => ?_
    have J5 : Inv X pins σ' H' { t with heap := h5 } := J.landed nb fl5.1 (((up.trans up3).trans (Heap.UpToSlots.of_keeps kp)).trans up5) hos hag
    obtain ⟨o5, vs5, he5, hz5, hd5⟩ := fl5.there
    have S5 := J5.suite he5 hd5 na nL nF
    refine store_ok (X := X.suite a ((a, o5) :: (X.pn ++ pins))) (v := .ref a) S5 hN hi locN rfl (fun t6 S6 => ?_) (.inr hln)
    have suite : PSs (X.suite a ((a, o5) :: (X.pn ++ pins))) [.Assign [.Name y py] (.Name n pn) pa] (tAsg (tVar i) (gName j)) := pss_one (ps_set (i := j) hN hj (.inl hlj) (pe_var (i := i) hi (.inl hln) hdn hdc) (by rfl) (.inr hlj))
    have hil : i < σ'.length := by
      rw [J.len]
      exact (List.getElem?_eq_some_iff.mp hi).1
    refine wpAny_mono (suite.run [] t6 _ H' { nx := fun σ6 H6 => σ6 = (σ'.set i (some (.ref a))).set j (some (.ref a)) ∧ H6 = H', rt := fun _ _ => False } S6 ⟨.ref a, by rw [List.getElem?_set_self hil], rfl, rfl⟩) (fun fl t7 hsp => ?_) (fun _ _ z => False.elim z)
    cases fl with
    | next =>
      obtain ⟨σ7, H7, S7, rfl, rfl⟩ := hsp
      have J7 := S7.unsuite okX
      obtain ⟨he7, _⟩ := S7.pin (a, o5) (List.mem_append_left _ List.mem_cons_self)
      have n0 : ∀ b o, t0.heap.get? b = some o → b ≠ a := fun b o e z => by
        rw [z] at e
        have q := nb a o e (by rw [hs]; exact nfr)
        rw [fl3.2.1] at q
        cases q
      have hs0 : X.s_0.heap.get? a = none := by
        cases q : X.s_0.heap.get? a with
        | none => rfl
        | some o =>
          obtain ⟨o', q'⟩ := J.base.there a o q (by rw [hex]; simp)
          exact absurd rfl (n0 a o' q')
      have J8 := inv_trackN (o := xob a cls d) J7 hs0 na nL (fun y c e z => by
        obtain ⟨v, oc, q1, q2⟩ := J7.cell y c e
        rw [z, he7] at q1
        cases q1
        rw [hd5] at q2
        cases q2) (fun p hp => n0 _ _ (J.pin p hp).1) (xob_ok he7 hz5 hd5)
      exact gone_ok J8 hN hi hln fun t9 J9 => ⟨_, _, J9, hnx a na⟩
    | brk =>
      obtain ⟨_, _, _, q⟩ := hsp
      exact False.elim q
    | cont =>
      obtain ⟨_, _, _, q⟩ := hsp
      exact False.elim q
    | ret u =>
      obtain ⟨_, _, _, _, _, q⟩ := hsp
      exact False.elim q
  · cases fl with
    | next =>
      obtain ⟨σ', H', J', q⟩ := hsp
      exact wpAny_execs_nil ⟨σ', H', J'.ofTry okX, q⟩
    | brk =>
      obtain ⟨σ', H', J', q⟩ := hsp
      exact ⟨σ', H', J'.ofTry okX, q⟩
    | cont =>
      obtain ⟨σ', H', J', q⟩ := hsp
      exact ⟨σ', H', J'.ofTry okX, q⟩
    | ret u =>
      obtain ⟨v, σ', H', J', r, q⟩ := hsp
      exact ⟨v, σ', H', J'.ofTry okX, r, q⟩
end
end Xo
set_option Elab.async false
set_option linter.all false
set_option maxRecDepth 100000
set_option maxHeartbeats 1000000
/-! Xi: a kept exception asked for its class; its field read -/
namespace PySem.W
open PySem PySem.Spec PySem.Calls PyProof.Rows
section
variable {prog : Program} {w : World} {A : Around} {E : Value → Shared → Prop} {s : Shared} {K : Frag} {x D : Addr} {ox od : Obj}
/-- its __class__ -/
theorem xi_class {Q : Option Value → Shared → Prop} (T : L2.ExcC K D) (X : K.In s.heap) (I : InstAt s.heap x ox D (some od)) (h : Q (some (.ref D)) { s with toks := s.toks + 1 }) : wpAny (model prog w) A (getAttr? (.ref x) "__class__") Q E s := by
  have fo : findObj K D (some od) "__class__" = some (.bind (.builtin "getset_descriptor.__get__") (.builtin "object.__class__")) := findObj_data (by obtain ⟨cd, hc, _⟩ := any_some T.hd; rw [hc]; rfl) T.ha T.hn T.ht
  obtain ⟨h0, g, d, t, os⟩ := s
  have K0 := I.type (M := model prog w)
  have K1 := looks_findIn (M := model prog w) X T.hg
  have K2 := looks_findIn (M := model prog w) X T.hk
  have K3 := looks_find (M := model prog w) X I fo
  have isB : Looks (model prog w) h0 (isInstance (.ref x) (.type "BaseException")) true := K0.andThen (looks_subIn X T.hs)
  have c0 : (false && onTheHeap (Value.builtin "BaseException.__getattribute__")) = false := rfl
  have c1 : (onTheHeap (Value.ref D) && Value.builtin "BaseException.__getattribute__" == Value.builtin "object.__getattribute__") = false := by
    rw [show (Value.builtin "BaseException.__getattribute__" == Value.builtin "object.__getattribute__") = false by decide +kernel]
    rfl
  unfold getAttr? getAttrBy? getAttrBy
  refine wpAny_bind (wpAny_mkText (wpAny_bind (wpAny_attempt (wpAny_holding (wpAny_bind (K0.at (wpAny_bind (K1.at ?_))))))))
  show wpAny _ _ (if (onTheHeap (Value.ref D) && Value.builtin "BaseException.__getattribute__" == Value.builtin "object.__getattribute__") = true then _ else _) _ _ ⟨h0, g, d, t + 1, os⟩
  rw [c1, if_neg Bool.false_ne_true]
  unfold getAttrByItsOwn hookBefore
  refine wpAny_bind ?_
  rw [if_pos (show onTheHeap (Value.ref D) = true from rfl)]
  refine K2.at (wpAny_bind (wpAny_attempt (wpAny_holding ?_)))
  unfold callGetattribute
  rw [c0, if_neg Bool.false_ne_true]
  unfold boundAndCalled
  rw [F.excAttr_ValueError.ga.bind (.ref x)]
  refine wpAny_bind (wpAny_pure ?_)
  refine wpAny_call (codeAny_call_builtin F.excAttr_ValueError.ga.plain F.entry_bexc_ga ?_)
  refine @check_slot (model prog w) _ _ ⟨h0, g, d, t + 1, os⟩ "BaseException.__getattribute__" "BaseException" "__getattribute__" (.ref x) [.str "__class__" t] [] _ (by decide +kernel) (by decide +kernel) isB (F.args_bexc_ga (.ref x) (.str "__class__" t)) ?_
  unfold Builtin.«object.__getattribute__»
  refine wpAny_bind (wpAny_of_eq (a := ((Value.ref x : Value), [Value.str "__class__" t])) (by first | rfl | (simp only [slotArgs]; rfl)) ?_)
  refine wpAny_bind (wpAny_pure (wpAny_bind (K0.at (wpAny_bind (K3.at ?_)))))
  refine wpAny_bind (wpAny_holding (wpAny_call (class_get (s := ⟨h0, g, d, t + 1, os⟩) X I T.hm ?_)))
  refine wpAny_pure ?_
  show wpAny _ _ (handedOut (.ref D)) _ _ ⟨h0, g, d, t + 1, os⟩
  rw [handedOut_of (v := .ref D) rfl]
  first
    | exact wpAny_pure (wpAny_pure h)
    | exact wpAny_pure h
    | exact wpAny_pure (wpAny_bind (wpAny_pure (wpAny_pure h)))
theorem xi_kit (T : L2.ExcC K D) : KitX K (.ref x) (.ref D) (fun h => InstAt h x ox D (some od)) where
  ty := fun _ _ _ I => I.type
  it := fun _ _ X _ => by
    obtain ⟨cd, hc, _⟩ := any_some T.hd
    unfold clsIn at hc
    split at hc
    · rename_i ho
      intro A' Q' E' s' k q
      unfold isType loadHead
      exact wpAny_bind (wpAny_loadPart (k _ _ (X _ _ ho)) (wpAny_pure q))
    · cases hc
  ne := fun h tp dd its n sl X htp => Bool.eq_false_iff.mpr fun q => by
    obtain ⟨cd, hc, _⟩ := any_some T.hd
    have e : D = tp := Value.ref.inj (beq_iff_eq.mp q)
    subst e
    unfold clsIn at hc
    split at hc
    · rename_i ho
      cases (X _ _ ho).symm.trans htp
    · cases hc
  ca := fun X I k => xi_class T X I k
end
end PySem.W
namespace Xo
open PySem PySem.Spec PyProof.Rows L2
/-- an exception of the class at C stands at a, its fields fs at d -/
def XAt (H : Hp) (a C d : Addr) (fs : List (Str × V)) : Prop := (H a = some (exo a C (some d)) ∨ H a = some (xob a (.ref C) (some d))) ∧ (H d = some (exd d fs) ∨ H d = some (.xd fs))
section
variable {X : Cx} {pins : List (Addr × Obj)} {σ : L2.St} {H : Hp} {s : Shared} {a C d : Addr} {fs : List (Str × V)}
theorem xat (I : Inv X pins σ H s) (h : XAt H a C d fs) : ∃ o od mA, PySem.W.InstAt s.heap a o C (some od) ∧ s.heap.get? d = some od ∧ s.heap.Ns1 d mA ∧ ∀ f, RelO (fs.lookup f) (mA f) := by
  have e1 : ∃ o vs, s.heap.get? a = some o ∧ Zc (.ref C) (some d) o ∧ o.data = .fields vs := by
    rcases h.1 with e | e
    · obtain ⟨t1, q⟩ := exo_at I.hok e
      exact ⟨_, _, q, ⟨rfl, rfl⟩, rfl⟩
    · have x : ObjOk X.prog X.w H s.heap a (.ext fun h => ∃ o vs, h.get? a = some o ∧ Zc (.ref C) (some d) o ∧ o.data = .fields vs) := I.hok a _ e
      exact x.1
  have e2 : ∃ mA, s.heap.Ns1 d mA ∧ ∀ f, RelO (fs.lookup f) (mA f) := by
    rcases h.2 with e | e
    · exact exd_at I.hok e
    · exact (show ObjOk X.prog X.w H s.heap d (.xd fs) from I.hok d _ e)
  obtain ⟨o, vs, q1, q2, q3⟩ := e1
  obtain ⟨mA, n1, r⟩ := e2
  obtain ⟨od, ho, hl⟩ := lookIn_ns n1
  exact ⟨o, od, mA, ⟨q1, q2.1, by unfold PySem.W.notCls; rw [q3] <;> rfl, by rw [q2.2]; exact ho⟩, ho, n1, r⟩
/-- isinstance(e, c): one class -/
def rIsX (K : PySem.W.Frag) : List V → Hp → VK → Prop := fun xs H Q => ∃ (a C d : Addr) (fs : List (Str × V)) (c : V) (cv : Value) (b : Bool), xs = [.ref a, c] ∧ XAt H a C d fs ∧ ExcC K C ∧ ClsV c cv ∧ PySem.W.kitOne K (.ref C) cv = some b ∧ Q (.bl b) H
theorem call_isX : CallR X (.builtin "isinstance") (rIsX X.K) := by
  intro pins s σ H xs us Q I r h
  obtain ⟨a, C, d, fs, c, cv, b, rfl, xa, T, hc, e, q⟩ := h
  obtain ⟨u1, u2, rfl, r1, r2⟩ := vals2 r
  obtain rfl : u1 = Value.ref a := r1
  obtain ⟨o, od, mA, J, _⟩ := xat I xa
  cases hc.eq r2
  exact PySem.W.kia_one (PySem.W.xi_kit T) I.kIn J e (fun z => nomatch z) fun tk => ⟨.bl b, H, I.tok tk, rfl, q⟩
/-- isinstance(e, (c1, ..)) -/
def rIsXT (K : PySem.W.Frag) : List V → Hp → VK → Prop := fun xs H Q => ∃ (a C d : Addr) (fs : List (Str × V)) (tp : Addr) (cs : List V) (us : List Value) (b : Bool), xs = [.ref a, .ref tp] ∧ XAt H a C d fs ∧ ExcC K C ∧ H tp = some (.tup cs) ∧ Paired ClsV cs us ∧ PySem.W.kitAny K (.ref C) us = some b ∧ Q (.bl b) H
theorem call_isXT : CallR X (.builtin "isinstance") (rIsXT X.K) := by
  intro pins s σ H xs us Q I r h
  obtain ⟨a, C, d, fs, tp, cs, ws, b, rfl, xa, T, hT, k, e, q⟩ := h
  obtain ⟨u1, u2, rfl, r1, r2⟩ := vals2 r
  obtain rfl : u1 = Value.ref a := r1
  obtain rfl : u2 = Value.ref tp := r2
  obtain ⟨o, od, mA, J, _⟩ := xat I xa
  obtain ⟨_, its, rv, ob, h1, h2, n, h3⟩ := (show ObjOk X.prog X.w H s.heap tp (.tup cs) from I.hok tp _ hT)
  cases ClsV.all k rv
  obtain ⟨oc, dct, dt, sl⟩ := ob
  dsimp only at h2 h3
  subst h2 h3
  exact PySem.W.kia_tup (PySem.W.xi_kit T) I.kIn J h1 e (fun z => nomatch z) fun tk => ⟨.bl b, H, I.tok tk, rfl, q⟩
/-- e.f -/
def tXfld (K : PySem.W.Frag) (f : Str) (te : TE) : TE := fun σ H Q => te σ H fun x H1 => ∃ (a C d : Addr) (fs : List (Str × V)) (v : V), x = .ref a ∧ XAt H1 a C d fs ∧ XC K C ∧ PySem.W.findIn K (.ref C) f = some none ∧ fs.lookup f = some v ∧ Q v H1
theorem pe_xfld {e : Expr} {te : TE} {n : Str} {pos : Pos} (he : PE X e te) (hb : attributeBase e n X.env (eval e X.env) = eval e X.env := by rfl) : PE X (.Attribute e n pos) (tXfld X.K n te) := by
  refine ⟨fun pins s σ H Q I h => ?_⟩
  refine attr_of hb (thn (he.run pins s σ H _ I h) fun u s1 ⟨x, H1, I1, rx, a, C, d, fs, v, ex, xa, T, hno, hl, q⟩ => ?_)
  subst ex
  obtain rfl : u = Value.ref a := rx
  obtain ⟨o, od, mA, J, ho, n1, r⟩ := xat I1 xa
  obtain ⟨od', ho', hl'⟩ := lookIn_ns n1
  rw [ho] at ho'
  cases ho'
  obtain ⟨u, hu, ru⟩ := RelO.some_of (v := v) (o := mA n) (by rw [← hl]; exact r n)
  exact HandSPX.exc_get I1.kIn J T.ga T.gg T.exC (PySem.W.findObj_own T.hd hno rfl (by rw [hl', hu])) (handed_of ru) ⟨v, H1, I1.tok _, ru, q⟩
end
end Xo
set_option Elab.async false
set_option linter.all false
set_option maxRecDepth 100000
set_option maxHeartbeats 1000000
/-! Lm: x(lambda: e) and x(lambda n=0: e), the lambda called by x -/
namespace Lm
open PySem PySem.Spec PyProof.Rows L2 LamX
/-- the lambda's function -/
abbrev lmFn (q : Str) (params : Arguments) (body : Expr) (scope : Scope) (cl : List (Str × Addr)) (dV doc pm : Value) (c' : Addr) (ctv : Value) : FuncData := PySem.W.kdv_fn "<lambda>" q params (.expr body) scope cl dV doc pm (.ref c') ctv
/-- what is asked of its names: captured ones, globals, and parameters that the maker's text has no name like -/
structure LmS (N : List Str) (sc scope : Scope) (own : List Str) : Prop where
  kind : scope.kind = .function
  co : scope.isCoroutine = false
  gen : scope.isGenerator = false
  noc : ∀ y ∈ scope.names, y.2 ≠ .cell
  loc : ∀ y ∈ scope.names, y.2 = .local → y.1 ∉ N
  free : ∀ y ∈ scope.names, y.2 = .free → sc.names.lookup y.1 = some .cell ∨ sc.names.lookup y.1 = some .free
  par : ∀ n ∈ own, scope.names.lookup n = some .local
def lmB (N : List Str) (sc scope : Scope) (own : List Str) : Bool :=
  decide (scope.kind = .function) && (!scope.isCoroutine && (!scope.isGenerator && ((scope.names.all fun y => !decide (y.2 = .cell)) && ((scope.names.all fun y => !decide (y.2 = .local) || !decide (y.1 ∈ N)) &&
    ((scope.names.all fun y => !decide (y.2 = .free) || (decide (sc.names.lookup y.1 = some .cell) || decide (sc.names.lookup y.1 = some .free))) && (own.all fun n => decide (scope.names.lookup n = some .local)))))))
theorem lm_by {N : List Str} {sc scope : Scope} {own : List Str} (h : lmB N sc scope own = true) : LmS N sc scope own := by
  unfold lmB at h
  simp only [Bool.and_eq_true, Bool.or_eq_true, Bool.not_eq_true', decide_eq_true_eq, decide_eq_false_iff_not, List.all_eq_true] at h
  obtain ⟨h1, h2, h3, h4, h5, h6, h7⟩ := h
  exact ⟨h1, h2, h3, h4, fun y hy e => (h5 y hy).elim (fun z => absurd e z) id, fun y hy e => (h6 y hy).elim (fun z => absurd e z) id, h7⟩
section
variable {X : Cx} {pins : List (Addr × Obj)} {σ : L2.St} {H : Hp} {s : Shared}
theorem LmS.has {scope : Scope} {own : List Str} (L : LmS X.N X.env.scope scope own) (ok : X.Ok) : ∀ y ∈ scope.names, y.2 = .free → ∃ c, X.env.cells.lookup y.1 = some c := fun y hy e =>
  (L.free y hy e).elim (fun k => ok.has _ (.inl k)) fun k => ok.has _ (.inr k)
/-- behind the defaults -/
theorem lm_tail {T : List (Addr × Str)} {c P : Addr} {params : Arguments} {body : Expr} {scope : Scope} {dV : Value} {pos : Pos} {E : Value → Shared → Prop} {Q : Value → Shared → Prop} (I : Inv X pins σ H s) (TB : TabB X.base X.mg c P) (hcode : X.env.code = .ref c)
    (hm : (P, X.env.qual ++ "<lambda>") ∈ T) (hu : ∀ p ∈ T, p.1 = P → p.2 = X.env.qual ++ "<lambda>") (hT : Tabs T H) (hfree : ∀ y ∈ scope.names, y.2 = .free → ∃ c, X.env.cells.lookup y.1 = some c)
    (h : ∀ (f c' : Addr) (doc pm ctv : Value) (H1 : Hp) (s' : Shared), Inv X pins σ H1 s' → ExtN H H1 → Tabs T H1 → (∀ b o, s.heap.get? b = some o → H b = none → s'.heap.get? b = some o ∧ H1 b = none) →
      s'.heap.get? f = some { cls := .type "function", data := .func (lmFn (X.env.qual ++ "<lambda>") params body scope (cloFrom X.env.cells scope.names []) dV doc pm c' ctv) } → H1 f = none → f ∉ frs X.stack → H1 c' = some (CodeO c' (X.env.qual ++ "<lambda>")) → Q (.ref f) s') :
    wpAny (model X.prog X.w) X.A (makeTail "<lambda>" (X.env.qual ++ "<lambda>") params (.expr body) scope X.env dV .none none pos pos.line) Q E s := by
  obtain ⟨ps, hP, ht, ha⟩ := hT _ hm
  have bP : s.heap.BuiltinsAt X.mg P := TB.bm.keeps I.bk
  have oP : s.heap.get? P = some { cls := .none, data := .fields ps } := I.hok P _ hP
  have out : ∀ f, s.heap.objs.size ≤ f → f ∉ frs X.stack := fun f hf z => by
    rcases List.mem_cons.mp (I.stkSub _ z) with e | e
    · have := I.lt
      rw [← e] at this
      exact Nat.lt_irrefl _ (Nat.lt_of_lt_of_le this hf)
    · exact I.nofs hf e
  cases hc : codeAmong pos ps.toList with
  | none =>
    refine PySem.W.kdv_makeTail (mg := X.mg) (c := c) (P := P) (ps := ps) (closure_ok hfree) I.ok.glob (I.mod.glob.keeps I.bk) hcode (TB.code.keeps I.bk) oP ht hc TB.gP bP fun c' ctv doc h1 tk hx hge hlt hrec htb => ?_
    obtain ⟨c2, oc, vs, t, e2, hoc, hd, hv⟩ := hrec
    cases e2
    have hz : s.heap.objs.size ≤ h1.objs.size := Nat.le_trans hge (Nat.le_of_lt hlt)
    have nC : H c' = none := I.hok.fresh hge
    have I1 := inv_table (t' := tk) (more := #[rawInt pos.line, rawInt pos.col, .ref c'])
      (h' := h1.push { cls := .type "function", data := .func (lmFn (X.env.qual ++ "<lambda>") params body scope (cloFrom X.env.cells scope.names []) dV doc ((X.mg "__name__").getD .none) c' ctv) }) I hP
      (fun b o hb e => Heap.get?_push_of_some _ (hx b o hb e)) (Heap.get?_push_of_some _ htb) hge ⟨oc, vs, t, Heap.get?_push_of_some _ hoc, hd, hv⟩
    have nPb : ∀ b, H b = none → b ≠ P := fun b e z => by
      rw [z, hP] at e
      cases e
    have eN : ExtN H (upd (upd H P (.tbl (ps ++ #[rawInt pos.line, rawInt pos.col, .ref c']))) c' (CodeO c' (X.env.qual ++ "<lambda>"))) := fun b o e n => by
      rw [upd_ne (ne_of_none e nC), upd_ne (fun z => n ps (Option.some.inj (e.symm.trans (by rw [z]; exact hP))))]
      exact e
    have eL : (ps ++ #[rawInt pos.line, rawInt pos.col, .ref c']).toList = ps.toList ++ [rawInt pos.line, rawInt pos.col, .ref c'] := by simp
    refine h h1.objs.size c' doc ((X.mg "__name__").getD .none) ctv _ _ I1 eN (fun p hp => ?_) (fun b o e n => ⟨Heap.get?_push_of_some _ (hx b o (nPb b n) e), ?_⟩) (Heap.get?_push_size _ rfl) ?_ (out _ hz) upd_same
    · by_cases hb : p.1 = P
      · rw [hu p hp hb, hb]
        refine ⟨_, by rw [upd_ne (ne_of_none hP nC), upd_same], by rw [eL]; exact PySem.TriplesOk_snoc _ _ _ _ ht, fun p' cv hcv => ?_⟩
        rw [eL] at hcv
        rcases among_app _ ht hcv with z | z
        · obtain ⟨c0, e1, e2⟩ := ha p' cv z
          exact ⟨c0, e1, eN _ _ e2 codeO_ne⟩
        · exact ⟨c', z, upd_same⟩
      · obtain ⟨ps', a1, a2, a3⟩ := hT p hp
        refine ⟨ps', by rw [upd_ne (ne_of_none a1 nC), upd_ne hb]; exact a1, a2, fun p' cv hcv => ?_⟩
        obtain ⟨c0, e1, e2⟩ := a3 p' cv hcv
        exact ⟨c0, e1, eN _ _ e2 codeO_ne⟩
    · rw [upd_ne (fun z => Nat.lt_irrefl _ (Nat.lt_of_lt_of_le (Heap.lt_size e) (by rw [z]; exact hge))), upd_ne (nPb b n)]
      exact n
    · rw [upd_ne (Nat.ne_of_gt hlt), upd_ne (Nat.ne_of_gt (Nat.lt_of_lt_of_le (Heap.lt_size oP) hz))]
      exact I.hok.fresh hz
  | some cv =>
    obtain ⟨c', e, hco⟩ := ha pos cv hc
    subst e
    refine PySem.W.kdv_makeTailHit (mg := X.mg) (c := c) (P := P) (ps := ps) (closure_ok hfree) I.ok.glob (I.mod.glob.keeps I.bk) hcode (TB.code.keeps I.bk) oP ht hc bP fun ctv doc h1 tk hx hz => ?_
    have I1 : Inv X pins σ H { s with heap := h1.push { cls := .type "function", data := .func (lmFn (X.env.qual ++ "<lambda>") params body scope (cloFrom X.env.cells scope.names []) dV doc ((X.mg "__name__").getD .none) c' ctv) }, toks := tk } :=
      I.kept fun b o e => Heap.get?_push_of_some _ (hx b o e)
    exact h h1.objs.size c' doc ((X.mg "__name__").getD .none) ctv H _ I1 (ExtN.refl H) hT (fun b o e n => ⟨Heap.get?_push_of_some _ (hx b o e), n⟩) (Heap.get?_push_size _ rfl) (I.hok.fresh hz) (out _ hz) hco
/-- a lambda stands at f, called without arguments it binds bs -/
def LamAt (h : Heap) (H : Hp) (fr : List Addr) (f : Addr) (FD : FuncData) (bs : List (Str × Value)) : Prop :=
  h.get? f = some { cls := .type "function", data := .func FD } ∧ H f = none ∧ f ∉ fr ∧ ∀ s2 : Shared, (∀ b o, h.get? b = some o → H b = none → b ∉ fr → s2.heap.get? b = some o) → BindsTo s2 FD ⟨[], []⟩ bs
/-- what the making leaves -/
def Made (X : Cx) (pins : List (Addr × Obj)) (σ : L2.St) (H : Hp) (T : List (Addr × Str)) (params : Arguments) (body : Expr) (scope : Scope) (own : List Str) (Q : Value → Shared → Prop) : Prop :=
  ∀ (f c' : Addr) (dV doc pm ctv : Value) (bs : List (Str × Value)) (H1 : Hp) (s' : Shared), Inv X pins σ H1 s' → ExtN H H1 → Tabs T H1 → bs.map (·.1) = own →
    LamAt s'.heap H1 (frs X.stack) f (lmFn (X.env.qual ++ "<lambda>") params body scope (cloFrom X.env.cells scope.names []) dV doc pm c' ctv) bs → H1 c' = some (CodeO c' (X.env.qual ++ "<lambda>")) → Q (.ref f) s'
theorem lm_make0 {T : List (Addr × Str)} {c P : Addr} {params : Arguments} {body : Expr} {scope : Scope} {pos : Pos} {E : Value → Shared → Prop} {Q : Value → Shared → Prop} (I : Inv X pins σ H s) (TB : TabB X.base X.mg c P) (hcode : X.env.code = .ref c)
    (hm : (P, X.env.qual ++ "<lambda>") ∈ T) (hu : ∀ p ∈ T, p.1 = P → p.2 = X.env.qual ++ "<lambda>") (hT : Tabs T H) (L : LmS X.N X.env.scope scope []) (hdef : defaultsOf params X.env = ([], []))
    (hbind : ∀ (q : Str) (cl : List (Str × Addr)) (doc pm ctv : Value) (c' : Addr), bindArgs (lmFn q params body scope cl .none doc pm c' ctv) ⟨[], []⟩ = pure []) (h : Made X pins σ H T params body scope [] Q) :
    wpAny (model X.prog X.w) X.A (eval (.Lambda params body scope pos) X.env) Q E s := by
  refine PySem.W.kla_eval hdef ?_
  rw [makeFunction_eq]
  simp only [List.zip_nil_right, List.filterMap_nil, List.isEmpty_nil, if_true, pure_bind]
  exact lm_tail I TB hcode hm hu hT (L.has I.ok) fun f c' doc pm ctv H1 s' I1 eN T1 kp hf hfn hfr hco => h f c' .none doc pm ctv [] H1 s' I1 eN T1 rfl ⟨hf, hfn, hfr, fun s2 _ => .of_eq (hbind _ _ _ _ _ _)⟩ hco
theorem lm_make1 {T : List (Addr × Str)} {c P : Addr} {params : Arguments} {body : Expr} {scope : Scope} {pos pd : Pos} {E : Value → Shared → Prop} {Q : Value → Shared → Prop} {n : Str} {z : Int} {kd : Nat} (I : Inv X pins σ H s) (TB : TabB X.base X.mg c P) (hcode : X.env.code = .ref c)
    (hm : (P, X.env.qual ++ "<lambda>") ∈ T) (hu : ∀ p ∈ T, p.1 = P → p.2 = X.env.qual ++ "<lambda>") (hT : Tabs T H) (L : LmS X.N X.env.scope scope [n]) (hd : params.defaults = [.Constant (.int z) kd pd]) (hk0 : params.kw_defaults = [])
    (hbind : ∀ (q : Str) (cl : List (Str × Addr)) (dV doc pm ctv u : Value) (c' : Addr), ∃ k : Option (Array Value) → Sem (List (Str × Value)), bindArgs (lmFn q params body scope cl dV doc pm c' ctv) ⟨[], []⟩ = seqItems? dV >>= k ∧ k (some [u].toArray) = pure [(n, u)])
    (h : Made X pins σ H T params body scope [n] Q) : wpAny (model X.prog X.w) X.A (eval (.Lambda params body scope pos) X.env) Q E s := by
  refine PySem.W.kdv_lam (by rw [hd]; rfl) hk0 ?_
  rw [hd]
  refine PySem.W.kdv_all1 (thn ((show PE X (.Constant (.int z) kd pd) (tC (.int z)) from pe_int).run pins s σ H (fun v H1 => v = .int z ∧ H1 = H) I ⟨rfl, rfl⟩) fun u s1 ⟨v, H1, I1, r1, q1⟩ => PySem.W.kdv_all0 ?_)
  obtain ⟨ev, eH⟩ := q1
  subst ev eH
  rw [makeFunction_eq]
  simp only [List.zip_nil_right, List.filterMap_nil, List.isEmpty_nil, if_true, pure_bind, List.isEmpty_cons, Bool.false_eq_true, if_false]
  refine wpAny_bind (wpAny_newTextTuple ?_)
  have I2 : Inv X pins σ H1 { s1 with heap := s1.heap.push (PySem.W.kdv_tup [u]) } := I1.kept (t' := s1.toks) fun b o e => Heap.get?_push_of_some _ e
  have ot : (s1.heap.push (PySem.W.kdv_tup [u])).get? s1.heap.objs.size = some (PySem.W.kdv_tup [u]) := Heap.get?_push_size _ rfl
  have nt : H1 s1.heap.objs.size = none := I1.hok.fresh (Nat.le_refl _)
  have tf : s1.heap.objs.size ∉ frs X.stack := fun hz => by
    rcases List.mem_cons.mp (I1.stkSub _ hz) with e | e
    · exact absurd I1.lt (by rw [← e]; exact Nat.lt_irrefl _)
    · exact I1.nofs (Nat.le_refl _) e
  refine lm_tail I2 TB hcode hm hu hT (L.has I.ok) fun f c' doc pm ctv H2 s' I3 eN T1 kp hf hfn hfr hco => h f c' (.ref s1.heap.objs.size) doc pm ctv [(n, u)] H2 s' I3 eN T1 rfl ⟨hf, hfn, hfr, fun s2 k2 => ?_⟩ hco
  obtain ⟨q1, q2⟩ := kp _ _ ot nt
  obtain ⟨k, e1, e2⟩ := hbind (X.env.qual ++ "<lambda>") (cloFrom X.env.cells scope.names []) (.ref s1.heap.objs.size) doc pm ctv u c'
  exact BindsTo.of_defaults rfl (k2 _ _ q1 q2 tf) rfl e1 e2
end
section
variable {X : Cx} {pins : List (Addr × Obj)} {σ : L2.St} {H HZ : Hp} {s s1 : Shared}
/-- the lambda's body begins: the maker's names are seen through their cells -/
theorem lm_start {A : Around} {outer : List Env} {E : XK} {scope : Scope} {own : List Str} {f c' : Addr} {g1 : Heap} {tk : Nat} {bs : List (Str × Value)} (I : Inv X pins σ H s) (L : LmS X.N X.env.scope scope own) (e0 : Env0 X.prog X.w X.K X.mg X.base A outer s1 HZ) (hd : A.handled = none)
    (un : Un (frs X.stack) [] H HZ s.heap s1.heap) (hns : g1.Ns s1.heap.objs.size fun y => bs.reverse.lookup y) (kp : ∀ b o, s1.heap.get? b = some o → g1.get? b = some o) : Inv (lamCx X A outer s1 HZ E scope f c') [] σ HZ { s1 with heap := g1, toks := tk } := by
  have fr := L.has I.ok
  have back : ∀ {y c}, (cloFrom X.env.cells scope.names []).lookup y = some c → X.env.cells.lookup y = some c := fun {y c} e => by
    rcases cloFrom_mem (PySem.mem_of_lookup e) with z | ⟨z1, z2⟩
    · cases z
    · obtain ⟨c1, q⟩ := fr _ z1 rfl
      have q : X.env.cells.lookup y = some c1 := q
      rw [q] at z2
      have z2 : c = c1 := z2
      rw [z2]
      exact q
  have seen : ∀ {y}, scope.names.lookup y = some .free → ∃ c, (cloFrom X.env.cells scope.names []).lookup y = some c := fun {y} e => by
    have e : (y, NameKind.free) ∈ scope.names := PySem.mem_of_lookup e
    exact mem_lookup (cloFrom_has (cells := X.env.cells) (acc := []) e)
  have cells : ∀ {c : Addr} {v : Option Value}, H c = none → s.heap.IsCell c v → g1.IsCell c v := fun {c v} n ⟨o, e1, e2⟩ => by
    obtain ⟨sl, q⟩ := un.any e1 n (by simp)
    exact ⟨_, kp _ _ q, e2⟩
  have ex0 : ∀ b : Addr, b ∉ (lamCx X A outer s1 HZ E scope f c').ex := fun b z => nomatch (show b ∈ ([] : List Addr) from z)
  refine ⟨⟨e0.mod, L.kind, rfl, rfl, Nat.le_refl _, fun y z c e1 e2 => I.ok.inj y z c (back e1) (back e2), fun y hy => ?_, fun y c z _ => ?_, fun _ => hd, Around.frames_deeper e0.frames, .inr ⟨rfl, rfl⟩, fun b z => absurd z (ex0 b), e0.bs, e0.bsz,
      fun b _ _ => ex0 b, fun b z => absurd z (ex0 b), e0.funs, e0.frf⟩,
    rfl, e0.bare, Un.kept kp, ⟨_, hns, fun i y v e1 e2 e3 => ?_⟩, fun y c e => ?_, e0.hok.fresh (Nat.le_refl _), fun y c e => ?_, fun q hq => (nomatch (show q ∈ ([] : List (Addr × Obj)) ++ [] from hq)), e0.hok.kept kp, I.len⟩
  · have hy : scope.names.lookup y = some .cell ∨ scope.names.lookup y = some .free := hy
    rcases hy with hy | hy
    · exact absurd rfl (L.noc _ (PySem.mem_of_lookup hy))
    · exact seen hy
  · exact Bool.noConfusion (show false = true from z)
  · have e3 : Vis scope y := e3
    rcases e3 with k | k | k
    · exact absurd (List.mem_of_getElem? e1) (L.loc _ (PySem.mem_of_lookup k) rfl)
    · exact absurd rfl (L.noc _ (PySem.mem_of_lookup k))
    · obtain ⟨m, hn, hl⟩ := I.loc
      have vis : Vis X.env.scope y := (L.free _ (PySem.mem_of_lookup k) rfl).elim (fun k => .inr (.inl k)) fun k => .inr (.inr k)
      obtain ⟨u, r, q⟩ := hl i y v e1 e2 vis
      obtain ⟨c2, h2⟩ := seen k
      refine ⟨u, r, .inr ⟨.inr k, c2, h2, ?_⟩⟩
      rcases q with ⟨k1, _⟩ | ⟨_, c3, e4, z⟩
      · have k1 : X.env.scope.names.lookup y = some .local := k1
        rcases L.free _ (PySem.mem_of_lookup k) rfl with k2 | k2
        · have k2 : X.env.scope.names.lookup y = some .cell := k2
          rw [k2] at k1
          cases k1
        · have k2 : X.env.scope.names.lookup y = some .free := k2
          rw [k2] at k1
          cases k1
      · rw [back h2] at e4
        cases e4
        exact cells (I.freeC y _ (back h2)) z
  · obtain ⟨v, z⟩ := I.cell y c (back e)
    exact ⟨v, cells (I.freeC y c (back e)) z⟩
  · obtain ⟨v, o, e1, e2⟩ := I.cell y c (back e)
    exact un.free c o e1 (I.freeC y c (back e)) (by simp)
/-- the callee's context: entered at s from X -/
abbrev gCx (X : Cx) (Ng : List Str) (x : Str) (sg : Scope) (g : Addr) (cdg : Value) (s : Shared) (H : Hp) : Cx := cxOf C8.CX0 X.prog X.w X.K X.mg X.base Ng x sg g cdg X.A X.stack s H C8.E0
/-- a(), in the def that got the lambda -/
theorem pe_actD {Ng : List Str} {x a : Str} {sg : Scope} {g f c' : Addr} {cdg dV doc pm ctv : Value} {params : Arguments} {body : Expr} {scope : Scope} {own : List Str} {bs : List (Str × Value)} {k i : Nat} {pn : List (Addr × Obj)} {xe : Value → Shared → Prop} {W : WX} {E : XK} {tb : TE} {p1 p2 : Pos}
    (I : Inv X pins σ H s) (L : LmS X.N X.env.scope scope own) (ho : bs.map (·.1) = own) (la : LamAt s.heap H (frs X.stack) f (lmFn (X.env.qual ++ "<lambda>") params body scope (cloFrom X.env.cells scope.names []) dV doc pm c' ctv) bs)
    (tk : Takes ((gCx X Ng x sg g cdg s H).tr pn xe) W) (hr : Room (k + 1) (X.A.deeper (envOfC x sg s.heap.objs.size g cdg)))
    (hbody : ∀ (A : Around) (outer : List Env) (s : Shared) (H : Hp), Room k (A.deeper (lamEnv X scope s.heap.objs.size f c')) → PE (lamCx X A outer s H E scope f c') body tb)
    (hN : Ng[i]? = some a) (hv : Vis sg a) (hd : (a == ("__debug__" : Str)) = false := by decide) (hcd : (a == ("__classdict__" : Str)) = false := by decide) :
    PE ((gCx X Ng x sg g cdg s H).tr pn xe) (.Call (.Name a p1) [] [] p2) (fun σZ HZ Q => σZ[i]? = some (some (.ref f)) ∧ HZ c' = some (CodeO c' (X.env.qual ++ "<lambda>")) ∧ (∀ cls d H', E cls d H' → W cls d σZ H') ∧ tb σ HZ Q) := by
  refine ⟨fun pinsZ sZ σZ HZ Q IZ h => ?_⟩
  obtain ⟨hs, hc, hW, ht⟩ := h
  obtain ⟨hf, hfn, hfr, hbi⟩ := la
  refine wpAny_Call_Name_kw (thn ((pe_var (pos := p1) (i := i) hN hv hd hcd).run pinsZ sZ σZ HZ (fun v H1 => v = .ref f ∧ H1 = HZ) IZ ⟨.ref f, hs, rfl, rfl⟩) fun u s1 ⟨v, H1, I1, r1, q1⟩ => ?_)
  obtain ⟨ev, eH⟩ := q1
  subst ev eH
  obtain rfl : u = Value.ref f := r1
  have kept : ∀ b o, s.heap.get? b = some o → H b = none → b ∉ frs X.stack → s1.heap.get? b = some o := fun b o e n nf => I1.base.keep b o e n nf (fun z => nomatch (show b ∈ ([] : List Addr) from z))
  have of1 := kept f _ hf hfn hfr
  refine PySem.W.callWith_F0 ⟨_, _, _, _, of1⟩ ?_
  have un : Un (frs X.stack) [] H H1 s.heap s1.heap := I1.base
  obtain ⟨⟨oc, vs, t, hoc, hdc, hvc⟩, _, _⟩ := I1.hok c' _ hc
  have rc : codeAny (model X.prog X.w) (X.A.deeper (envOfC x sg s.heap.objs.size g cdg)) (.call (.ref f) ⟨[], []⟩) (CR (L2.CX X.prog X.w) (envOfC x sg s.heap.objs.size g cdg :: X.stack) X.prog X.w H1 s1 Q E) s1 := by
    refine PySem.W.kla_callFunE hr.depth of1 rfl L.co L.gen rfl ⟨c', oc, vs, t, rfl, hoc, hdc, hvc⟩ ?_
    refine hbi s1 kept _ _ _ _ (wpAny_newFunctionEnv L.noc (fun y hy => L.par _ (by rw [← ho]; exact List.mem_map_of_mem hy)) (fun g1 hns hsb => ⟨I1.nolimit.fresh _ hsb, ?_⟩) L.kind)
    show codeAny _ _ (.expr body (lamEnv X scope s1.heap.objs.size f c')) _ _
    have kp : ∀ b o, s1.heap.get? b = some o → g1.get? b = some o := fun b o e => hsb.extBut b o (Nat.ne_of_lt (Heap.lt_size e)) (Heap.get?_push_of_some _ e)
    have J := lm_start (A := X.A.deeper (envOfC x sg s.heap.objs.size g cdg)) (outer := envOfC x sg s.heap.objs.size g cdg :: X.stack) (E := E) (f := f) (c' := c') (tk := s1.toks + bs.length) I L I1.env0 hr.hd un hns kp
    refine PySem.W.kla_codeExpr (wpAny_mono ((hbody _ _ s1 H1 (hr.deeper _)).run [] _ _ H1 Q J ht) (fun v s' hq => ?_) fun e s' hq => hq)
    obtain ⟨w', H', J', rv, q⟩ := hq
    exact ⟨w', H', J'.os, J'.bare, J'.base, J'.hok, rv, q⟩
  refine wpAny_call (codeAny_mono rc fun r s' hq => ?_)
  cases r with
  | error e => exact tk e s' (XE.of_call I1 hW hq)
  | ok fl =>
    cases fl with
    | ret u => exact I1.after hq
    | next => exact False.elim hq
    | brk => exact False.elim hq
    | cont => exact False.elim hq
end
/-- the def that calls what it got: a calls it, W the wish of its place; TT: what it makes of the lambda's reading -/
def Gives (X : Cx) (Ng : List Str) (x : Str) (sg : Scope) (g : Addr) (cdg : Value) (bg : List Stmt) (a : Str) (q : Str) (TT : (XK → Hp → VK → Prop) → Hp → VK → Prop) : Prop :=
  ∀ (f c' : Addr) (s : Shared) (H : Hp) (Q : VK) (tl : XK → Hp → VK → Prop),
    (∀ (W : WX) (pn : List (Addr × Obj)) (xe : Value → Shared → Prop) (E : XK) (p1 p2 : Pos), Takes ((gCx X Ng x sg g cdg s H).tr pn xe) W →
      PE ((gCx X Ng x sg g cdg s H).tr pn xe) (.Call (.Name a p1) [] [] p2) (fun σZ HZ Q => σZ[0]? = some (some (.ref f)) ∧ HZ c' = some (CodeO c' q) ∧ (∀ cls d H', E cls d H' → W cls d σZ H') ∧ tl E HZ Q)) →
    H c' = some (CodeO c' q) → TT tl H Q → ∃ t, PSs (gCx X Ng x sg g cdg s H).nox bg t ∧ t { nx := fun _ H' => Q .non H', rt := Q } (L2.start Ng [.ref f]) H
/-- the lambda expression, made -/
def LamPE (X : Cx) (T : List (Addr × Str)) (params : Arguments) (body : Expr) (scope : Scope) (own : List Str) (lpos : Pos) : Prop :=
  ∀ (pins : List (Addr × Obj)) (σ : L2.St) (H : Hp) (s : Shared) (E Q : Value → Shared → Prop), Inv X pins σ H s → Tabs T H → Made X pins σ H T params body scope own (Q) → wpAny (model X.prog X.w) X.A (eval (.Lambda params body scope lpos) X.env) Q E s
section
variable {X : Cx}
/-- x(lambda ..: body) -/
theorem pe_lamD {T : List (Addr × Str)} {TT : (XK → Hp → VK → Prop) → Hp → VK → Prop} {x a : Str} {g : Addr} {k : Nat} {pg : Arguments} {bg : List Stmt} {sg : Scope} {dV kV doc pm cdv ct oc : Value} {an od : Option Addr} {osl : Array (Option Value)} {Ng : List Str}
    {params : Arguments} {body : Expr} {scope : Scope} {own : List Str} {t : XK → TE} {p lpos pos : Pos} (hg : Gl X x) (hm : X.mg x = some (.ref g)) (hk : PySem.W.keepIn X.K (.ref g) = true)
    (lk : X.K.lookup g = some ⟨oc, od, .func (PySem.W.fnOf x x pg bg sg dV kV doc pm an cdv ct), osl⟩) (hcg : PySem.W.codeIn X.K cdv x = true) (hb : L2.Binds X.K (PySem.W.fnOf x x pg bg sg dV kV doc pm an cdv ct) [a] []) (Sg : FnScope Ng [a] sg) (hNg : Ng[0]? = some a) (hva : Vis sg a)
    (hG : Gives X Ng x sg g cdv bg a (X.env.qual ++ "<lambda>") TT) (hr : Room (k + 2) X.A) (L : LmS X.N X.env.scope scope own) (hmk : LamPE X T params body scope own lpos)
    (hbody : ∀ (A : Around) (outer : List Env) (s : Shared) (H : Hp) (E : XK) (f c' : Addr), Room k (A.deeper (lamEnv X scope s.heap.objs.size f c')) → PE (lamCx X A outer s H E scope f c') body (t E))
    (hdb : (x == ("__debug__" : Str)) = false := by decide) (hd : (a == ("__debug__" : Str)) = false := by decide) (hcd : (a == ("__classdict__" : Str)) = false := by decide) :
    PE X (.Call (.Name x p) [.Lambda params body scope lpos] [] pos) (tLam T TT t) := by
  refine ⟨fun pins s σ H Q I h => ?_⟩
  obtain ⟨hT, h⟩ := h
  refine wpAny_Call_Name_kw (ld_glob I hg hm ?_ hdb)
  refine PySem.W.callWith_K (h₀ := X.base) I.ok.mod.kin hk ?_ (by rfl) (by rfl)
  show wpAny _ _ (spliced ((false, eval (.Lambda params body scope lpos) X.env) :: backTo pos (starEach [] X.env))) _ _ s
  refine Calls.spliced_cons (hmk pins σ H s _ _ I hT fun f c' dV' doc' pm' ctv bs H1 s' I1 eN T1 ho la hco => ?_)
  refine Calls.spliced_nil ⟨I1.kIn, ?_⟩
  have rc : codeAny (model X.prog X.w) X.A (.call (.ref g) ⟨[.ref f], []⟩) (CR C8.CX0 X.stack X.prog X.w H1 s' Q C8.E0) s' := by
    refine run_ofS (N := Ng) (ps := [a]) (us := [.ref f]) (vs := [.ref f]) lk hcg Sg hr I1.env0 (hb s' [.ref f] I1.kIn rfl) (.cons rfl .nil) rfl fun hr2 => ?_
    obtain ⟨t', ht', hq'⟩ := hG f c' s' H1 Q (fun E H' Q' => t E σ H' Q') (fun W pn xe E p1 p2 tk => pe_actD (i := 0) I1 L ho la tk hr2 (fun A outer s H hr3 => hbody A outer s H E f c' hr3) hNg hva hd hcd) hco (h H1 eN T1)
    exact ⟨t', ht'.nox, hq'⟩
  refine wpAny_call (codeAny_mono rc fun r s2 hq => ?_)
  cases r with
  | error e => exact (show False from hq).elim
  | ok fl =>
    cases fl with
    | ret u => exact I1.after hq
    | next => exact False.elim hq
    | brk => exact False.elim hq
    | cont => exact False.elim hq
end
end Lm
set_option Elab.async false
set_option linter.all false
set_option maxRecDepth 100000
set_option maxHeartbeats 1000000
/-! Sd: xs.count(y) of flat things; the def that asks a deed for its answer or its error -/
namespace Sd
open PySem PySem.Spec PyProof.Rows L2 LamX Xo
section
variable {X : Cx}
theorem count_eq {y : V} : ∀ {ys : List V} {its : List Value}, Vals ys its → ys.all flatV = true → its.countP (eqU y) = ys.countP fun z => eqV z y
  | [], _, .nil, _ => rfl
  | z :: ys, _ :: _, .cons r rr, f => by
    rw [List.all_cons, Bool.and_eq_true] at f
    rw [List.countP_cons, List.countP_cons, count_eq rr f.2, eqU_of r f.1]
def rCountF (K : PySem.W.Frag) : V → List V → Hp → VK → Prop := fun x xs H Q => ∃ (a : Addr) (ys : List V) (y : V), x = V.ref a ∧ xs = [y] ∧ SqL K H a ys ∧ flatV y = true ∧ ys.all flatV = true ∧ Q (.int ((ys.countP fun z => eqV z y) : Nat)) H
theorem mt_countF : MtR X "list.count" (rCountF X.K) := by
  intro pins s σ H x xs v us Q I rx rxs h
  obtain ⟨a, ys, y, rfl, rfl, hs, fy, fys, q⟩ := h
  cases rx
  obtain ⟨uy, rfl, ry⟩ := rxs.one
  obtain ⟨its, rv, ⟨⟨cls, dd, data, sl⟩, n, ho, hc, hdn, hd⟩, hlen⟩ := I.list hs
  dsimp only at hc hd
  subst hc hd
  refine call_meets F.slot_list_count ⟨_, ho, rfl⟩ F.entry_list_count (F.args_list_count_2 _ _) (SeqAt.list_countAt a its.toArray n dd sl uy (eqU y)) ⟨ho, fun u hu => mem_eqAt ry fy rv fys u (by simpa using hu), ?_⟩
  refine ⟨.int ((ys.countP fun z => eqV z y) : Nat), H, I.tok _, ⟨s.toks, ?_⟩, q⟩
  show Value.int ((its.toArray.toList.countP (eqU y) : Nat) : Int) s.toks = _
  rw [show its.toArray.toList.countP (eqU y) = ys.countP fun z => eqV z y from count_eq rv fys]
end
end Sd
set_option Elab.async false
set_option linter.all false
set_option maxRecDepth 100000
set_option maxHeartbeats 1000000
/-! Gd: defs that are run where no repr is under way; repr of data; the law's start told so -/
namespace Gd
open PySem PySem.Spec PyProof.Rows L2 LamX
/-! ### the start of a law -/
section
variable {P : Program} {w : World} {K : PySem.W.Frag} {mg mb : Str → Option Value} {CX : CXT} {fa a : Addr} {cs : List (Addr × Addr)} {s1 : Shared} {vs : List Value} {ns : List Int}
/-- the tracked addresses at the start, and what they hold -/
structure Begin (P : Program) (w : World) (K : PySem.W.Frag) (cs : List (Addr × Addr)) (a : Addr) (ns : List Int) (h : Heap) (tr : List Addr) (H : Hp) : Prop where
  out : ∀ b, b ∉ tr → H b = none
  inn : ∀ b, b ∈ tr → K.lookup b = none ∧ ∃ o, h.get? b = some o ∧ ((∃ vs n, o.data = .seq vs n) ∨ o.data = .fields #[])
  tab : ∀ p ∈ cs, p.2 ∈ tr ∧ H p.2 = some (.tbl #[])
  row : SqL K H a (ns.map V.int)
  two : ∀ b, b ∈ tr → (∃ p ∈ cs, p.2 = b) ∨ ((¬ ∃ p ∈ cs, p.2 = b) ∧ ∃ o u, H b = some (.frz o u))
  hok : HOk P w H h
theorem begins (ka : K.In s1.heap) (tabs : ∀ p ∈ cs, s1.heap.get? p.2 = some { cls := .none, data := .fields #[] }) (ntK : ∀ p ∈ cs, K.lookup p.2 = none) (ha : s1.heap.get? a = some { cls := .type "list", data := .seq vs.toArray }) (hi : IntsAre vs ns) (hl : ns.length ≤ sizeLine) :
    ∃ tr H, Begin P w K cs a ns s1.heap tr H := by
  have rv := vals_ints hi
  have aT : ¬ ∃ p ∈ cs, p.2 = a := fun ⟨p, hp, e⟩ => by
    have q := tabs p hp
    rw [e, ha] at q
    have z := congrArg Obj.data (Option.some.inj q)
    cases z
  have mT : ∀ {b}, b ∈ cs.map (·.2) → ∃ p ∈ cs, p.2 = b := fun {b} hb => List.mem_map.mp hb
  have tM : ∀ p ∈ cs, p.2 ∈ cs.map (·.2) := fun p hp => List.mem_map.mpr ⟨p, hp, rfl⟩
  have tO : ∀ b, b ∈ cs.map (·.2) → K.lookup b = none ∧ ∃ o, s1.heap.get? b = some o ∧ ((∃ vs n, o.data = .seq vs n) ∨ o.data = .fields #[]) := fun b hb => by
    obtain ⟨p, hp, rfl⟩ := mT hb
    exact ⟨ntK p hp, _, tabs p hp, .inr rfl⟩
  cases hk : K.lookup a with
  | some o =>
    have e := ka a o hk
    rw [ha] at e
    cases e
    refine ⟨cs.map (·.2), fun b => if b ∈ cs.map (·.2) then some (.tbl #[]) else none, fun b hb => if_neg hb, tO, fun p hp => ⟨tM p hp, if_pos (tM p hp)⟩,
      .inr ⟨_, vs.toArray, _, hk, rfl, rfl, rfl, by rw [List.size_toArray, hi.length]; exact hl, by simpa using rv⟩, fun b hb => .inl (mT hb), fun b u z => ?_⟩
    by_cases hb : b ∈ cs.map (·.2)
    · have z := (if_pos hb).symm.trans z
      cases z
      obtain ⟨p, hp, rfl⟩ := mT hb
      exact tabs p hp
    · have z := (if_neg hb).symm.trans z
      cases z
  | none =>
    have na : a ∉ cs.map (·.2) := fun z => aT (mT z)
    refine ⟨a :: cs.map (·.2), fun b => if b = a then some (.frz { cls := .type "list", data := .seq vs.toArray } (.lst (ns.map V.int))) else if b ∈ cs.map (·.2) then some (.tbl #[]) else none, fun b hb => ?_, fun b hb => ?_, fun p hp => ?_,
      .inl (.inr ⟨{ cls := .type "list", data := .seq vs.toArray }, if_pos rfl⟩), fun b hb => ?_, fun b u z => ?_⟩
    · rw [List.mem_cons] at hb
      exact (if_neg fun z => hb (.inl z)).trans (if_neg fun z => hb (.inr z))
    · rcases List.mem_cons.mp hb with rfl | hb
      · exact ⟨hk, _, ha, .inl ⟨_, _, rfl⟩⟩
      · exact tO b hb
    · have np : p.2 ≠ a := fun z => aT ⟨p, hp, z⟩
      exact ⟨List.mem_cons_of_mem _ (tM p hp), (if_neg np).trans (if_pos (tM p hp))⟩
    · rcases List.mem_cons.mp hb with rfl | hb
      · exact .inr ⟨aT, _, _, if_pos rfl⟩
      · exact .inl (mT hb)
    · by_cases hb : b = a
      · have z := (if_pos hb).symm.trans z
        cases z
        rw [hb]
        exact ⟨ha, by rw [List.length_map]; exact hl, vs, _, rv, ha⟩
      · have z := (if_neg hb).symm.trans z
        by_cases hb2 : b ∈ cs.map (·.2)
        · have z := (if_pos hb2).symm.trans z
          cases z
          obtain ⟨p, hp, rfl⟩ := mT hb2
          exact tabs p hp
        · have z := (if_neg hb2).symm.trans z
          cases z
/-- the law's call, from its run where no repr is under way -/
theorem start_run (ka : K.In s1.heap) (gl : s1.heap.Ns mainGlobals mg) (bt : s1.heap.Ns builtinsNs mb) (bb : ∀ x : Str, x ≠ "__name__" → mb x = bootBuiltins x) (lim : s1.heap.NoLimit) (ng : s1.gens = #[])
    (tabs : ∀ p ∈ cs, s1.heap.get? p.2 = some { cls := .none, data := .fields #[] }) (ntK : ∀ p ∈ cs, K.lookup p.2 = none) (cod : ∀ p ∈ cs, PySem.W.CodeHd s1.heap p.1 p.2)
    (bmain : ∃ (bm : Addr) (ob : Obj), mg "__builtins__" = some (.ref bm) ∧ bm ≠ builtinsNs ∧ s1.heap.get? bm = some ob ∧ ob.cls = .type "module" ∧ ob.dict = some builtinsNs ∧ ob.data = .plain)
    (ha : s1.heap.get? a = some { cls := .type "list", data := .seq vs.toArray }) (hi : IntsAre vs ns) (hl : ns.length ≤ sizeLine)
    (run : ∀ (base : Heap) (H : Hp), K.In base → base.Ns mainGlobals mg → (∀ p ∈ cs, TabB base mg p.1 p.2) → (∀ p ∈ cs, H p.2 = some (.tbl #[])) → SqL K H a (ns.map V.int) → Env0 P w K mg base callerA [] s1 H →
      codeAny (model P w) callerA (.call (.ref fa) ⟨[.ref a], []⟩) (CR CX [] P w H s1 (fun v _ => v = .bl true) fun _ _ _ => False) s1)
    (no : ∀ H e s', CX [] H s1 (fun _ _ _ => False) e s' → False) :
    codeAny (model P w) callerA (.call (.ref fa) ⟨[.ref a], []⟩) (fun r s' => r = .ok (.ret (.bool true)) ∧ OldK s1.heap s'.heap ∧ s'.os = s1.os ∧ AllBare s'.gens) s1 := by
  obtain ⟨tr, H, B⟩ := begins (P := P) (w := w) ka tabs ntK ha hi hl
  -- the ground: what is not tracked
  have kept : ∀ {b : Addr} {o : Obj}, s1.heap.get? b = some o → (∀ vs n, o.data ≠ .seq vs n) → o.data ≠ .fields #[] → (PySem.W.hideAll s1.heap tr).get? b = some o := fun {b o} e h1 h2 => PySem.W.hideAll_get tr e fun hb => by
    obtain ⟨_, o', e', q⟩ := B.inn b hb
    rw [e] at e'
    cases e'
    rcases q with ⟨vs, n, q⟩ | q
    · exact h1 _ _ q
    · exact h2 q
  have kdict : ∀ {b : Addr} {m : Str → Option Value}, s1.heap.Ns b m → (PySem.W.hideAll s1.heap tr).Ns b m := fun {b m} ⟨o, es, ep, e, d, r⟩ => ⟨o, es, ep, kept e (fun vs n z => by rw [d] at z; cases z) (fun z => by rw [d] at z; cases z), d, r⟩
  have kb : K.In (PySem.W.hideAll s1.heap tr) := fun b o e => PySem.W.hideAll_get tr (ka b o e) fun hb => by
    rw [(B.inn b hb).1] at e
    cases e
  have md : L2.Mod K mg (PySem.W.hideAll s1.heap tr) := ⟨kb, kdict gl, ⟨mb, kdict bt, bb⟩, let ⟨mc, h1, h2⟩ := lim; ⟨mc, kdict h1, h2⟩⟩
  have tb : ∀ p ∈ cs, TabB (PySem.W.hideAll s1.heap tr) mg p.1 p.2 := fun p hp => by
    refine ⟨?_, ?_, fun z => ?_⟩
    · obtain ⟨o, us, file, tf, flags, tg, inF, text, tt, e1, r1, r2, rest⟩ := cod p hp
      obtain ⟨r3, _⟩ := id rest
      exact ⟨o, us, file, tf, flags, tg, inF, text, tt, kept e1 (fun vs n z => by rw [r2] at z; cases z) (fun z => by rw [r2] at z; cases z; simp at r3), r1, r2, rest⟩
    · obtain ⟨bm, ob, b1, b2, b3, b4, b5, b6⟩ := bmain
      refine ⟨bm, ob, b1, b2, fun q => ?_, fun q => ?_, kept b3 (fun vs n z => by rw [b6] at z; cases z) (fun z => by rw [b6] at z; cases z), b4, b5, b6⟩
      · obtain ⟨o, es, ep, e, d, _⟩ := gl
        rw [q, e] at b3
        cases b3
        rw [d] at b6
        cases b6
      · rw [q, tabs p hp] at b3
        cases b3
        cases b6
    · obtain ⟨o, es, ep, e, d, _⟩ := gl
      rw [z, tabs p hp] at e
      cases e
      cases d
  have e0 : Env0 P w K mg (PySem.W.hideAll s1.heap tr) callerA [] s1 H := by
    refine ⟨rfl, md, fun b o e => ⟨PySem.W.of_hideAll tr e, B.out b fun hb => ?_⟩, Nat.le_of_eq (PySem.W.hideAll_size _ _), trivial, fun b hb => (nomatch (show b ∈ ([] : List Addr) from hb)), B.hok, .of_eq ng⟩
    rw [PySem.W.hideAll_none tr hb] at e
    cases e
  refine codeAny_mono (run _ H kb (kdict gl) tb (fun p hp => (B.tab p hp).2) B.row e0) fun r s' h => ?_
  cases r with
  | error e => exact (no H e s' h).elim
  | ok fl =>
    cases fl with
    | next => exact False.elim h
    | brk => exact False.elim h
    | cont => exact False.elim h
    | ret u =>
      obtain ⟨v, H', hos, bare, un, hok', rv, ev⟩ := h
      have ev : v = .bl true := ev
      subst ev
      obtain rfl : u = Value.bool true := rv
      have same : ∀ b o, (¬ ∃ p ∈ cs, p.2 = b) → s1.heap.get? b = some o → s'.heap.get? b = some o := fun b o nb e => by
        by_cases hb : b ∈ tr
        · rcases B.two b hb with z | ⟨_, o1, u1, z⟩
          · exact absurd z nb
          · have q1 := (B.hok b _ z).1
            have q2 := (hok' b _ (un.frzs b o1 u1 z)).1
            rw [e] at q1
            cases q1
            exact q2
        · exact un.keep b o e (B.out b hb) (fun z => nomatch (show b ∈ ([] : List Addr) from z)) (by simp)
      have grew : ∀ p ∈ cs, ∃ more : Array Value, s'.heap.get? p.2 = some { cls := .none, data := .fields more } := fun p hp => by
        obtain ⟨more, z⟩ := un.tbls p.2 #[] (B.tab p hp).2
        exact ⟨_, hok' p.2 _ z⟩
      refine ⟨rfl, ⟨fun b o e => ?_, fun b o e => ?_⟩, hos, bare⟩
      · by_cases hb : ∃ p ∈ cs, p.2 = b
        · obtain ⟨p, hp, rfl⟩ := hb
          obtain ⟨more, hm⟩ := grew p hp
          rw [tabs p hp] at e
          cases e
          exact .inr (.inl ⟨((cod p hp).tab (tabs p hp)).isCodeTable, rfl, #[], more, rfl, by rw [Array.empty_append]; exact hm⟩)
        · exact .inl (same b o hb e)
      · by_cases hb : ∃ p ∈ cs, p.2 = b
        · obtain ⟨p, hp, rfl⟩ := hb
          obtain ⟨more, hm⟩ := grew p hp
          exact ⟨_, hm⟩
        · exact ⟨o, same b o hb e⟩
end
/-! ### defs that are run where no repr is under way -/
theorem deeper_guards (A : Around) (env : Env) : (A.deeper env).guards = A.guards := rfl
structure FnG (P : Program) (w : World) (K : PySem.W.Frag) (mg : Str → Option Value) (base : Heap) (k : Nat) (f : Addr) (fd : FuncData) (ps : List Str) (sp : Sp) : Prop where
  len : ∀ vs H Q E, sp vs H Q E → vs.length = ps.length
  run : ∀ (A : Around) (outer : List Env) (s : Shared) (H : Hp) (args : Args) (us : List Value) (vs : List V) (Q : VK) (E : XK), Room k A → A.guards = some [] → Env0 P w K mg base A outer s H → BindsTo s fd args (ps.zip us) → Vals vs us → sp vs H Q E →
    codeAny (model P w) A (.call (.ref f) args) (CR C8.CX0 outer P w H s Q E) s
section
variable {P : Program} {w : World} {K : PySem.W.Frag} {mg : Str → Option Value} {base : Heap}
theorem okG {x qual : Str} {st : Stmt} {f : Addr} {fd : FuncData} {N ps : List Str} {k : Nat} {sp : Sp} (F : Fun K x qual st f fd) (S : FnScope N ps (defScope st)) (len : ∀ vs H Q E, sp vs H Q E → vs.length = ps.length)
    (hbody : ∀ (cdv : Value) (A : Around) (outer : List Env) (s : Shared) (H : Hp) (vs : List V) (Q : VK) (E : XK), Room k (A.deeper (envOfC qual (defScope st) s.heap.objs.size f cdv)) → (A.deeper (envOfC qual (defScope st) s.heap.objs.size f cdv)).guards = some [] → sp vs H Q E →
      ∃ t, PSs (cxOf C8.CX0 P w K mg base N qual (defScope st) f cdv A outer s H E).nox (defBody st) t ∧ t { nx := fun _ H' => Q .non H', rt := Q } (L2.start N vs) H) : FnG P w K mg base (k + 1) f fd ps sp := by
  obtain ⟨oc, od, kV, doc, pm, an, cdv, ct, osl, rfl, lk, hcd⟩ := F.ex
  refine ⟨len, fun A outer s H args us vs Q E hr hgd e0 hb r h => run_ofS lk hcd S hr e0 hb r (len _ _ _ _ h) fun hr2 => ?_⟩
  obtain ⟨t, ht, q⟩ := hbody cdv A outer s H vs Q E hr2 hgd h
  exact ⟨t, ht.nox, q⟩
end
section
variable {X : Cx}
theorem pe_callG {k : Nat} {f : Addr} {fd : FuncData} {ps : List Str} {sp : Sp} {x : Str} {p pos : Pos} {e : Expr} {es : List Expr} {t : TA} (F : FnG X.prog X.w X.K X.mg X.base k f fd ps sp) (hr : Room k X.A) (hgd : X.A.guards = some []) (hg : Gl X x) (hm : X.mg x = some (.ref f)) (hk : PySem.W.keepIn X.K (.ref f) = true)
    (hb : Binds X.K fd ps []) (ha : PA X (e :: es) t) (hdb : (x == ("__debug__" : Str)) = false := by decide) (he : starEach (e :: es) X.env = (false, eval e X.env) :: starEach es X.env := by rfl)
    (hpl : (backTo pos (starEach es X.env)).any (·.1) = false := by rfl) : PE X (.Call (.Name x p) (e :: es) [] pos) (tCall sp [] C8.E0 t) := by
  refine ⟨fun pins s σ H Q I h => ?_⟩
  refine wpAny_Call_Name_kw (ld_glob I hg hm ?_ hdb)
  refine PySem.W.callWith_K (h₀ := X.base) I.ok.mod.kin hk (thn (ha.run pos pins s σ H _ I h) fun us s1 ⟨vs, H1, I1, r, q⟩ => ⟨I1.kIn, ?_⟩) he hpl
  have q : sp (vs ++ []) H1 Q C8.E0 := q
  rw [List.append_nil] at q
  have hl : us.length = ps.length := by rw [← r.length, F.len _ _ _ _ q]
  have hbt : BindsTo s1 fd ⟨us, []⟩ (ps.zip us) := by
    have z := hb s1 us I1.kIn (by rw [List.append_nil]; exact hl)
    rwa [List.append_nil] at z
  refine wpAny_call (codeAny_mono (F.run X.A X.stack s1 H1 ⟨us, []⟩ us vs Q C8.E0 hr hgd I1.env0 hbt r q) fun r' s' hq => ?_)
  cases r' with
  | error e => exact (show False from hq).elim
  | ok fl =>
    cases fl with
    | ret u => exact I1.after hq
    | next => exact False.elim hq
    | brk => exact False.elim hq
    | cont => exact False.elim hq
/-- repr of a list or tuple of data -/
def rRepr (K : PySem.W.Frag) : List V → Hp → VK → Prop := fun xs H Q => ∃ (a : Addr) (d : PyData), xs = [.ref a] ∧ Dp K H (.ref a) d ∧ d.showable = true ∧ d.hasDict = false ∧ d.depth ≤ 60 ∧ d.shown.length ≤ sizeLine ∧ Q (.str d.shown) H
theorem call_repr (hgd : X.A.guards = some []) (hu : X.A.units + 64 < cLine) : CallR X (.builtin "repr") (rRepr X.K) := by
  intro pins s σ H xs us Q I r h
  obtain ⟨a, d, rfl, hd, hs, hk, hdp, hz, q⟩ := h
  obtain rfl := Vals.ref1 r
  obtain ⟨as, rd⟩ := Dp.reads I d _ _ hd (show L2.RelV (V.ref a) (Value.ref a) from rfl)
  exact repr_of_reads' rd hs (fun z => by rw [hk] at z; cases z) hgd (by omega) (fun b o e => e) (fun h' u tk k => ⟨.str d.shown, H, I.kept (t' := tk) k, ⟨u, rfl⟩, q⟩) hz
end
/-! ### the walk's end -/
/-- what is known of the law at the head's heap -/
def LawAtG (l : PySem.W.OpenLaw) (w : World) (K : PySem.W.Frag) (k n : Nat) (x : Str) (mg : Str → Option Value) (fa : Addr) (h : Heap) : Prop :=
  ∃ (fd : FuncData) (cs : List (Addr × Addr)) (sp : Sp), (∀ p ∈ cs, h.get? p.2 = some { cls := .none, data := .fields #[] }) ∧ (∀ p ∈ cs, K.lookup p.2 = none) ∧ (∀ p ∈ cs, PySem.W.CodeHd h p.1 p.2) ∧ (∀ (s : Shared) (u : Value), BindsTo s fd ⟨[u], []⟩ [(x, u)]) ∧
    (∀ (H : Hp) (a : Addr) (ns : List Int), ns.length ≤ n → (∀ p ∈ cs, H p.2 = some (.tbl #[])) → SqL K H a (ns.map V.int) → sp [.ref a] H (fun v _ => v = .bl true) fun _ _ _ => False) ∧
    ∀ base : Heap, K.In base → base.Ns mainGlobals mg → (∀ p ∈ cs, TabB base mg p.1 p.2) → FnG l.prog w K mg base k fa fd [x] sp
theorem walk_ofG {l : PySem.W.OpenLaw} {n k : Nat} {q : Program} {loose : List Str} {XP : (Str → Option Value) → Heap → Prop} {YP : World → Heap → Prop} {d : DefRec} {K : Params → PySem.W.Frag} {x : Str}
    (hn : l.most = some n) (hn2 : n ≤ sizeLine) (hdf : d.params.defaults = []) (hr : Room k callerA) (hY : ∀ (w : World) (h : Heap), YP w h → (K w.params).In h)
    (F : ∀ (w : World) (mg : Str → Option Value) (fa : Addr) (h : Heap), YP w h → (K w.params).In h → h.Ns mainGlobals mg → mg d.name = some (.ref fa) → LawAtG l w (K w.params) k n x mg fa h) :
    PySem.W.WalkO q loose XP YP l.row.toRowW d [] (fun f vs => PySem.call f vs) := by
  refine Att.attach_callB hn hdf fun w s0 s1 mg mb fa o pm cd doc a vs ns G Y ho hd hcd hmg hobj hints hlen hbits hg => ?_
  have kx := hY w _ Y
  obtain ⟨fd, cs, sp, hT, nT, C, hb, hsp, hF⟩ := F w mg fa _ Y kx G.T.g hmg
  exact start_run (CX := C8.CX0) kx G.T.g G.T.b G.T.builtins G.T.nolimit hg hT nT C G.T.bmain hobj hints (Nat.le_trans hlen hn2)
    (fun base H kb nb tb htb hS e0 => (hF base kb nb tb).run callerA [] s1 H ⟨[.ref a], []⟩ [.ref a] [.ref a] _ _ hr rfl e0 (hb s1 (.ref a)) (.cons rfl .nil) (hsp H a ns hlen htb hS)) fun H e s' z => z
end Gd
set_option Elab.async false
set_option linter.all false
set_option maxRecDepth 100000
/-! Kw: f(k = v, ..), keywords alone -/
namespace Kw
open PySem PySem.Spec PyProof.Rows L2
theorem pe_callK0 {X : Cx} {CX : CXT} {k : Nat} {f : Addr} {fd : FuncData} {ps ks : List Str} {sp : Sp} {E : XK} {x : Str} {p pos : Pos} {kws : List Keyword} {tk : TA} {g : List Value → List Value → List Value} {gV : List V → List V → List V}
    (F : FnOk X.prog X.w X.K X.mg X.base CX k f fd ps sp) (hr : Room k X.A) (hg : Gl X x) (hm : X.mg x = some (.ref f)) (hk : PySem.W.keepIn X.K (.ref f) = true) (hb : KBinds X.K fd ps ks g gV) (hx : Passes CX X E) (hkw : PK X kws tk)
    (hall : (backToKw pos (keywordEach kws X.env)).all (·.1.isSome) = true := by rfl) (hks : (backToKw pos (keywordEach kws X.env)).filterMap (·.1) = ks := by rfl) (hdb : (x == ("__debug__" : Str)) = false := by decide)
    (hpl : ((backTo pos (starEach [] X.env)).any (·.1) || (backToKw pos (keywordEach kws X.env)).any (·.1.isNone)) = false := by rfl) : PE X (.Call (.Name x p) [] kws pos) (fun σ H Q => tk σ H fun zs H1 => sp (gV [] zs) H1 Q E) := by
  refine ⟨fun pins s σ H Q I h => ?_⟩
  refine wpAny_Call_Name_kw (ld_glob I hg hm ?_ hdb)
  refine PySem.W.callWith_KW0 (h₀ := X.base) I.ok.mod.kin hk hall (thn (hkw.run pos pins s σ H _ I h) fun ws s1 ⟨zs, H1, I1, rz, q⟩ => ⟨I1.kIn, ?_⟩) hpl
  rw [hks]
  exact run_fnk (us := []) (vs := []) F hr hb hx I1 .nil rz q
/-- one parameter, by place or by name -/
theorem kb1 {K : PySem.W.Frag} {fd : FuncData} {p : Str} (h0 : ∀ u : Value, bindArgs fd ⟨[u], []⟩ = pure [(p, u)]) (h1 : ∀ u : Value, bindArgs fd ⟨[], [(p, u)]⟩ = pure [(p, u)]) : KBinds K fd [p] [p] (fun us ws => us ++ ws) (fun vs zs => vs ++ zs) where
  to := fun s us ws _ hl => by
    match us, ws, hl with
    | [u], [], _ => exact .of_eq (h0 u)
    | [], [u], _ => exact .of_eq (h1 u)
    | [], [], hl => cases hl
    | _ :: _ :: _, _, hl => simp at hl
    | [_], _ :: _, hl => simp at hl
    | [], _ :: _ :: _, hl => simp at hl
  rel := fun r r' => r.append r'
end Kw
set_option Elab.async false
set_option linter.all false
set_option maxRecDepth 100000
namespace K01
open PySem L2
def top (i : Nat) : Stmt := PySem.Challenge.pw_entryhall_k01_plain_keys_and_codes.main.body.getD i (.Pass ⟨0, 0, 0, 0⟩)
/-- a def of the text -/
structure Df (K : PySem.W.Frag) (mg : Str → Option Value) (name qual : Str) (st : Stmt) (ps : List Str) (f : Addr) (fd : FuncData) : Prop where
  F : Fun K name qual st f fd
  b : Binds K fd ps []
  g : mg name = some (.ref f)
/-- the built-ins stand as they are -/
structure Bl (mg : Str → Option Value) : Prop where
  isinstance : mg "isinstance" = none
  int : mg "int" = none
  bool : mg "bool" = none
  list : mg "list" = none
  range : mg "range" = none
  len : mg "len" = none
  min : mg "min" = none
  max : mg "max" = none
  sorted : mg "sorted" = none
  enumerate : mg "enumerate" = none
  repr : mg "repr" = none
  tuple : mg "tuple" = none
  divmod : mg "divmod" = none
section
variable {P : Program} {w : World} {K : PySem.W.Frag} {mg : Str → Option Value} {base : Heap}
theorem pInt {X : Cx} {pos : Pos} (hg : Gl X "int") (hm : X.mg "int" = none) : PE X (.Name "int" pos) (tC (.ty "int")) := pe_bltn (v := .ty "int") (u := .type "int") hg hm (by decide +kernel) rfl
theorem pBool {X : Cx} {pos : Pos} (hg : Gl X "bool") (hm : X.mg "bool" = none) : PE X (.Name "bool" pos) (tC (.ty "bool")) := pe_bltn (v := .ty "bool") (u := .type "bool") hg hm (by decide +kernel) rfl
end
theorem ixN_n {n j : Nat} (hj : j < n) : ixN n (j : Int) = some j := by
  unfold ixN
  rw [if_pos (by omega), if_pos (by omega)]
  simp
theorem iteNo {b : Bool} {p q : Prop} (h : b = false) (k : q) : if b = true then p else q := by
  subst h
  exact k
theorem iteYes {b : Bool} {p q : Prop} (h : b = true) (k : p) : if b = true then p else q := by
  subst h
  exact k
theorem upd_upd {H : Hp} {a : Addr} {x y : HO} : upd (upd H a x) a y = upd H a y := by
  funext b
  unfold upd
  split <;> rfl
/-! ### lists of ints as data -/
theorem dp_ints {K : PySem.W.Frag} {H : Hp} : ∀ gs : List Int, DpAll K H (gs.map V.int) (gs.map PyData.int)
  | [] => .nil
  | g :: gs => .cons (.int g) (dp_ints gs)
theorem can_ints : ∀ gs : List Int, PyData.canLayAll0 (gs.map PyData.int) = true
  | [] => by simp [PyData.canLayAll0]
  | g :: gs => by
    rw [List.map_cons, PyData.canLayAll0, can_ints gs]
    simp [PyData.canLay0]
theorem depth_ints : ∀ gs : List Int, PyData.depthAll (gs.map PyData.int) = 0
  | [] => by simp [PyData.depthAll]
  | g :: gs => by
    rw [List.map_cons, PyData.depthAll, depth_ints gs]
    simp [PyData.depth]
theorem shaped_ints (gs : List Int) : SeqAt.shaped (.list (gs.map PyData.int)) = true := by
  unfold SeqAt.shaped
  rw [PyData.canLay0, can_ints, PyData.depth, depth_ints]
  rfl
theorem eqv_nil : ∀ gs : List Int, PyData.eqv (.list (gs.map PyData.int)) (.list []) = gs.isEmpty
  | [] => by simp [PyData.eqv, PyData.eqvAll]
  | g :: gs => by simp [PyData.eqv, PyData.eqvAll]
/-- a remainder as a natural number -/
theorem fmod_nat (i : Int) {m : Int} (h : 0 < m) : ∃ n : Nat, i.fmod m = (n : Int) ∧ (n : Int) < m := by
  rw [Int.fmod_eq_emod_of_nonneg _ (by omega)]
  have h1 := Int.emod_nonneg i (show m ≠ 0 by omega)
  have h2 := Int.emod_lt_of_pos i h
  exact ⟨(i % m).toNat, by omega, by omega⟩
theorem same_new {H : Hp} {a : Addr} {o : HO} (h : H a = none) : Same H (upd H a o) := fun b u e => by
  rw [upd_ne (ne_of_none e h)]
  exact e
theorem int_at {ns : List Int} {i : Nat} {x : V} (h : (ns.map V.int)[i]? = some x) : ∃ z, x = V.int z ∧ ns[i]? = some z := by
  rw [List.getElem?_map] at h
  obtain ⟨z, hz, rfl⟩ := Option.map_eq_some_iff.mp h
  exact ⟨z, rfl, hz⟩
/-- for i, x in enumerate(a list) -/
theorem for_enumL {K : PySem.W.Frag} {a : Addr} {xs : List V} {g : TG} {tb : TS} {D : Ends} {σ : L2.St} {H : Hp} (Pv : Nat → L2.St → Hp → Prop) (h0 : Pv 0 σ H) (hl : ∀ i σ H, i ≤ xs.length → Pv i σ H → SqL K H a xs)
    (hs : ∀ i x T σ H, xs[i]? = some x → Pv i σ H → H T = none → g (.ref T) σ (upd H T (.tup [.int (i : Nat), x])) fun σ2 H2 => tb { D with nx := Pv (i + 1), ct := Pv (i + 1), bk := D.nx } σ2 H2) (hd : ∀ σ H, Pv xs.length σ H → D.nx σ H) :
    ∃ W : Nat → Nat → L2.St → Hp → Prop, (∃ m, W 0 m σ H) ∧ ∀ i m σ H, W i m σ H →
      ((Ite K a).stop i H ∧ D.nx σ H) ∨ ((Ite K a).go i H ∧ ∃ N : L2.St → Hp → Prop, (∀ σ' H', N σ' H' → ∃ m', m' < m ∧ W (i + 1) m' σ' H') ∧ ∀ x H', (Ite K a).yld i H x H' → g x σ H' fun σ2 H2 => tb { D with nx := N, ct := N, bk := D.nx } σ2 H2) := by
  refine ⟨fun i m σ H => m = xs.length - i ∧ i ≤ xs.length ∧ Pv i σ H, ⟨xs.length, by simp, Nat.zero_le _, h0⟩, ?_⟩
  rintro i m σ H ⟨rfl, hi, p⟩
  have q := hl i σ H hi p
  by_cases hlt : i < xs.length
  · refine .inr ⟨⟨xs, xs[i], q, by simp [hlt]⟩, Pv (i + 1), fun σ' H' p' => ⟨xs.length - (i + 1), by omega, rfl, hlt, p'⟩, fun x H' y => ?_⟩
    obtain ⟨T, x, rfl, hT, rfl, hx⟩ := y
    exact hs i x T σ H (hx xs q) p hT
  · have e : i = xs.length := by omega
    subst e
    exact .inl ⟨⟨xs, q, Nat.le_refl _⟩, hd σ H p⟩
/-! ### the law's digits -/
abbrev sMixed : Stmt := top 34
abbrev sDraw : Stmt := top 35
abbrev sDigit : Stmt := top 36
abbrev kL : Key := .inr "left"
abbrev kC : Key := .inr "cell"
abbrev kT : Key := .inr "turns"
def sdK (l c t : Int) : List (Key × V) := [(kL, .int l), (kC, .int c), (kT, .int t)]
theorem nLC : ¬ (kL = kC) := by decide +kernel
theorem nLT : ¬ (kL = kT) := by decide +kernel
theorem nCT : ¬ (kC = kT) := by decide +kernel
theorem nCL : ¬ (kC = kL) := by decide +kernel
theorem nTL : ¬ (kT = kL) := by decide +kernel
theorem sd_left {l c t : Int} : valV (sdK l c t) kL = some (.int l) := by
  unfold sdK valV
  rw [List.find?_cons, decide_eq_true rfl]
  rfl
theorem sd_cell {l c t : Int} : valV (sdK l c t) kC = some (.int c) := by
  unfold sdK valV
  rw [List.find?_cons, decide_eq_false nLC, List.find?_cons, decide_eq_true rfl]
  rfl
theorem sd_turns {l c t : Int} : valV (sdK l c t) kT = some (.int t) := by
  unfold sdK valV
  rw [List.find?_cons, decide_eq_false nLT, List.find?_cons, decide_eq_false nCT, List.find?_cons, decide_eq_true rfl]
  rfl
theorem spl {l c t z : Int} : putK (sdK l c t) kL (.int z) = sdK z c t := by
  unfold sdK putK
  rw [if_pos (by simp)]
  simp only [List.map_cons, List.map_nil, if_true, if_neg nCL, if_neg nTL]
theorem spt {l c t z : Int} : putK (sdK l c t) kT (.int z) = sdK l c z := by
  unfold sdK putK
  rw [if_pos (by simp)]
  simp only [List.map_cons, List.map_nil, if_true, if_neg nLT, if_neg nCT]
theorem dget_left {H : Hp} {s : Addr} {l c t : Int} (h : H s = some (.dK (sdK l c t))) : DGet H s (.str "left") (some (.int l)) := by
  have := DGet.k (k := kL) h
  rw [sd_left] at this
  exact this
theorem dget_cell {H : Hp} {s : Addr} {l c t : Int} (h : H s = some (.dK (sdK l c t))) : DGet H s (.str "cell") (some (.int c)) := by
  have := DGet.k (k := kC) h
  rw [sd_cell] at this
  exact this
theorem dget_turns {H : Hp} {s : Addr} {l c t : Int} (h : H s = some (.dK (sdK l c t))) : DGet H s (.str "turns") (some (.int t)) := by
  have := DGet.k (k := kT) h
  rw [sd_turns] at this
  exact this
theorem dput_left {H : Hp} {s : Addr} {l c t z : Int} (h : H s = some (.dK (sdK l c t))) : DPut H s (.str "left") (.int z) (upd H s (.dK (sdK z c t))) := by
  have := DPut.k (k := kL) (v := .int z) h (by show 3 < sizeLine; decide)
  rw [spl] at this
  exact this
theorem dput_turns {H : Hp} {s : Addr} {l c t z : Int} (h : H s = some (.dK (sdK l c t))) : DPut H s (.str "turns") (.int z) (upd H s (.dK (sdK l c z))) := by
  have := DPut.k (k := kT) (v := .int z) h (by show 3 < sizeLine; decide)
  rw [spt] at this
  exact this
theorem merge_sd {l c t : Int} : mergeK [] (sdK l c t) = sdK l c t := by
  unfold mergeK sdK
  simp only [List.foldl_cons, List.foldl_nil]
  have e1 : putK ([] : List (Key × V)) kL (.int l) = [(kL, .int l)] := rfl
  have e2 : putK [(kL, V.int l)] kC (.int c) = [(kL, .int l), (kC, .int c)] := by
    unfold putK
    rw [if_neg (by simp; decide +kernel)]
    rfl
  have e3 : putK [(kL, V.int l), (kC, .int c)] kT (.int t) = [(kL, .int l), (kC, .int c), (kT, .int t)] := by
    unfold putK
    rw [if_neg (by simp; decide +kernel)]
    rfl
  rw [e1, e2, e3]
/-- a source of digits stands at s; its turns are at most n -/
def Src (H : Hp) (s : Addr) (n : Nat) : Prop := ∃ l c t : Int, H s = some (.dK (sdK l c t)) ∧ 0 ≤ l ∧ 0 ≤ t ∧ t ≤ (n : Int)
/-- all but the source stays -/
def KeptS (H H' : Hp) (s : Addr) : Prop := ∀ b o, H b = some o → b ≠ s → H' b = some o
theorem KeptS.trans {H H1 H2 : Hp} {s : Addr} (a : KeptS H H1 s) (b : KeptS H1 H2 s) : KeptS H H2 s := fun c o e h => b c o (a c o e h) h
theorem KeptS.of {H H1 : Hp} {s : Addr} (a : Same H H1) : KeptS H H1 s := fun c o e _ => a c o e
theorem KeptS.same {H H1 : Hp} {s : Addr} (a : KeptS H H1 s) {H0 : Hp} (sm : Same H0 H) (h : H0 s = none) : Same H0 H1 := fun b o e => a b o (sm b o e) (ne_of_none e h)
theorem Src.same {H H1 : Hp} {s : Addr} {n : Nat} (h : Src H s n) (a : Same H H1) : Src H1 s n := by
  obtain ⟨l, c, t, h1, h2⟩ := h
  exact ⟨l, c, t, a _ _ h1, h2⟩
section
variable {P : Program} {w : World} {K : PySem.W.Frag} {mg : Str → Option Value} {base : Heap}
def spMixed : Sp := fun vs H Q _ => ∃ (c k : Int), vs = [.int c, .int k] ∧ 0 ≤ k ∧ k < 2 ^ 40 ∧ ∀ (n : Nat) (H' : Hp), Same H H' → (n : Int) < 2147483647 → Q (.int (n : Int)) H'
theorem scMixed : FnScope ["cell", "k", "mixed"] ["cell", "k"] (defScope sMixed) := ⟨rfl, rfl, rfl, by decide +kernel, rfl, by decide +kernel, by decide +kernel⟩
theorem pick4 (n : Nat) (h : (n : Int) < 4) : ∃ m : Nat, 0 < m ∧ m < 2147483648 ∧ ([V.int 1000000007, .int 998244353, .int 2147483629, .int 1000000009] : List V)[n]? = some (V.int (m : Int)) := by
  have h : n < 4 := by omega
  match n, h with
  | 0, _ => exact ⟨1000000007, by decide, by decide, rfl⟩
  | 1, _ => exact ⟨998244353, by decide, by decide, rfl⟩
  | 2, _ => exact ⟨2147483629, by decide, by decide, rfl⟩
  | 3, _ => exact ⟨1000000009, by decide, by decide, rfl⟩
theorem ok_mixed {f : Addr} {fd : FuncData} (D : Df K mg "_law_mixed" "_law_mixed" sMixed ["cell", "k"] f fd) : FnOk P w K mg base CX0 1 f fd ["cell", "k"] spMixed := by
  refine D.F.ok scMixed (fun vs H Q E h => ?_) (fun cdv A outer s H vs Q E hr h => ?_)
  · obtain ⟨c, k, rfl, _⟩ := h
    rfl
  · obtain ⟨c, k, rfl, k0, k1, q⟩ := h
    refine ⟨_, pss_cons (ps_set (i := 2) scMixed.nd rfl (Or.inl rfl) (pe_op op_add (pe_op op_add (pe_op op_modN (pv 0) (pe_ix ix_list (pe_lst (pa_cons pe_int (pa_cons pe_int (pa_cons pe_int (pa_cons pe_int pa_nil))))) (pe_op op_modN (pv 1) pe_int) (fun _ _ => rfl))) (pe_op op_mul pe_int (pv 1))) pe_int))
      (pss_one (ps_ret (pe_op op_modN (pe_op op_mul (pe_op op_modN (pe_op op_mul (pv 2) (pv 2)) pe_int) pe_int) pe_int))), ?_⟩
    obtain ⟨j, ej, hj⟩ := fmod_nat k (m := 4) (by decide)
    obtain ⟨m, m0, m1, em⟩ := pick4 j hj
    refine ⟨_, rfl, by show 4 ≤ sizeLine; decide, fun L hL => ?_⟩
    refine ⟨_, rfl, _, _, rfl, rfl, (by show (4 : Int) ≠ 0; decide), ?_⟩
    dsimp only
    rw [ej]
    obtain ⟨x, ex, hx⟩ := fmod_nat c (m := (m : Int)) (by omega)
    refine ⟨L, _, (j : Int), _, rfl, rfl, SqL.of upd_same, atI_nat em, _, _, rfl, rfl, (by show (m : Int) ≠ 0; omega), ?_⟩
    dsimp only
    rw [ex]
    refine ⟨_, rfl, _, _, rfl, rfl, .inl ⟨by decide, by decide⟩, _, _, rfl, rfl, _, _, rfl, rfl, ?_⟩
    have b0 : 0 ≤ (x : Int) + 7919 * k + 13 := by omega
    have b1 : (x : Int) + 7919 * k + 13 < 2 ^ 64 := by
      have : (2 : Int) ^ 40 = 1099511627776 := by decide
      have : (2 : Int) ^ 64 = 18446744073709551616 := by decide
      omega
    refine ⟨_, rfl, _, rfl, _, _, rfl, rfl, .inl ⟨by show -(2 ^ 64) < (x : Int) + 7919 * k + 13; omega, b1⟩, _, _, rfl, rfl, (by show (2147483647 : Int) ≠ 0; decide), ?_⟩
    dsimp only
    obtain ⟨y, ey, hy⟩ := fmod_nat (((x : Int) + 7919 * k + 13) * ((x : Int) + 7919 * k + 13)) (m := 2147483647) (by decide)
    rw [ey]
    refine ⟨_, _, rfl, rfl, .inl ⟨by omega, by omega⟩, _, _, rfl, rfl, (by show (2147483647 : Int) ≠ 0; decide), ?_⟩
    dsimp only
    obtain ⟨z, ez, hz⟩ := fmod_nat ((y : Int) * 48271) (m := 2147483647) (by decide)
    rw [ez]
    exact q z _ (same_new hL) hz
def spDraw : Sp := fun vs H Q _ => ∃ (c k : Int), vs = [.int c, .int k] ∧ 0 ≤ k ∧ ∀ s H', Same H H' → H s = none → (∀ n : Nat, 1000 * k ≤ (n : Int) → Src H' s n) → Q (.ref s) H'
theorem scDraw : FnScope ["cell", "k"] ["cell", "k"] (defScope sDraw) := ⟨rfl, rfl, rfl, by decide +kernel, rfl, by decide +kernel, by decide +kernel⟩
theorem ok_draw {f : Addr} {fd : FuncData} (D : Df K mg "_law_draw" "_law_draw" sDraw ["cell", "k"] f fd) : FnOk P w K mg base CX0 1 f fd ["cell", "k"] spDraw := by
  refine D.F.ok scDraw (fun vs H Q E h => ?_) (fun cdv A outer s H vs Q E hr h => ?_)
  · obtain ⟨c, k, rfl, _⟩ := h
    rfl
  · obtain ⟨c, k, rfl, k0, q⟩ := h
    refine ⟨_, pss_one (ps_ret (pe_disp (pps_cons pe_str (pe_ifExp (pt_cmpR op_ge (pv 0) (pe_op op_pow pe_int pe_int) (nomark _)) (pv 0) pe_int) (pps_cons pe_str (pv 0) (pps_cons pe_str (pe_op op_mul pe_int (pv 1)) pps_nil))) (by rfl) (by rfl) (fun z => by cases z) (by decide))), ?_⟩
    intro d hd
    have fin : ∀ l : Int, 0 ≤ l → ∃ kvs, some (HO.dK []) = some (.dK []) ∧ kvs = sdK l c (1000 * k) := fun l _ => ⟨_, rfl, rfl⟩
    refine ⟨_, rfl, _, _, rfl, rfl, ⟨by decide, by decide, by decide⟩, _, _, rfl, rfl, _, rfl, ite2 (fun e => ?_) (fun e => ?_)⟩
    · have e : (10 : Int) ^ (18 : Int).toNat ≤ c := of_decide_eq_true e
      refine ⟨_, rfl, _, rfl, _, rfl, _, _, rfl, rfl, .inl ⟨by decide, by decide⟩, ?_⟩
      refine ⟨upd_same, sdK c c (1000 * k), rfl, (by show 3 ≤ 15; decide), ?_⟩
      rw [merge_sd]
      have hc : 0 ≤ c := Int.le_trans (by decide) e
      refine q d _ (fun b o e => by rw [upd_ne (ne_of_none e hd), upd_ne (ne_of_none e hd)]; exact e) hd fun n hn => ⟨c, c, 1000 * k, upd_same, hc, by omega, hn⟩
    · refine ⟨_, rfl, _, rfl, _, _, rfl, rfl, .inl ⟨by decide, by decide⟩, ?_⟩
      refine ⟨upd_same, sdK 0 c (1000 * k), rfl, (by show 3 ≤ 15; decide), ?_⟩
      rw [merge_sd]
      refine q d _ (fun b o e => by rw [upd_ne (ne_of_none e hd), upd_ne (ne_of_none e hd)]; exact e) hd fun n hn => ⟨0, c, 1000 * k, upd_same, by decide, by omega, hn⟩
def spDigit : Sp := fun vs H Q _ => ∃ (s : Addr) (b n : Nat), vs = [.ref s, .int (b : Int)] ∧ Src H s n ∧ n + 4 < 2 ^ 40 ∧ 0 < b ∧ b < 2 ^ 62 ∧ ∀ (m : Nat) (H' : Hp), m < b → Src H' s (n + 4) → KeptS H H' s → Q (.int (m : Int)) H'
theorem scDigit : FnScope ["state", "size", "j", "found"] ["state", "size"] (defScope sDigit) := ⟨rfl, rfl, rfl, by decide +kernel, rfl, by decide +kernel, by decide +kernel⟩
theorem ok_digit {f f1 : Addr} {fd fd1 : FuncData} (D : Df K mg "_law_digit" "_law_digit" sDigit ["state", "size"] f fd) (B : Bl mg) (D1 : Df K mg "_law_mixed" "_law_mixed" sMixed ["cell", "k"] f1 fd1) (G1 : FnOk P w K mg base CX0 1 f1 fd1 ["cell", "k"] spMixed) : FnOk P w K mg base CX0 2 f fd ["state", "size"] spDigit := by
  refine D.F.ok scDigit (fun vs H Q E h => ?_) (fun cdv A outer s H vs Q E hr h => ?_)
  · obtain ⟨d, b, n, rfl, _⟩ := h
    rfl
  · obtain ⟨d, b, n, rfl, ⟨l, c, t, hd, l0, t0, t1⟩, hn, b0, b1, q⟩ := h
    have hu := hu_of hr
    refine ⟨_, pss_cons (ps_if (pt_cmpR op_eq (pe_dget hu (pv 0) pe_str (fun _ _ => rfl)) pe_int (nomark _))
        (pss_one (ps_for PassesOwn.never rfl (pi_range1 rfl B.range (pa_cons pe_int pa_nil)) (pg_name (i := 2) scDigit.nd rfl (Or.inl rfl))
          (pss_cons (ps_dput hu (pv 0) pe_str (pe_op op_add (pe_dget hu (pv 0) pe_str (fun _ _ => rfl)) pe_int) rfl)
            (pss_one (ps_dput hu (pv 0) pe_str (pe_op op_add (pe_op op_mul (pe_dget hu (pv 0) pe_str (fun _ _ => rfl)) pe_int) (pe_call G1 hr rfl D1.g D1.F.kp D1.b .nil pass0 (pa_cons (pe_dget hu (pv 0) pe_str (fun _ _ => rfl)) (pa_cons (pe_dget hu (pv 0) pe_str (fun _ _ => rfl)) pa_nil)))) rfl))))) pss_nil)
      (pss_cons (ps_set (i := 3) scDigit.nd rfl (Or.inl rfl) (pe_op op_modN (pe_dget hu (pv 0) pe_str (fun _ _ => rfl)) (pv 1)))
      (pss_cons (ps_dput hu (pv 0) pe_str (pe_op op_fdivW (pe_dget hu (pv 0) pe_str (fun _ _ => rfl)) (pv 1)) rfl)
      (pss_one (ps_ret (pv 3))))), ?_⟩
    -- behind the test
    refine ⟨_, rfl, d, _, rfl, dget_left hd, rfl, _, rfl, ite2 (fun e => ?_) (fun e => ?_)⟩
    · have e : l = 0 := by simpa using of_decide_eq_true e
      subst e
      refine ⟨4, rfl, by decide, by decide, for_range (n := 4) (fun i σ H' => (∃ v2, σ = [some (.ref d), some (.int (b : Int)), v2, none]) ∧ (∃ l : Int, H' d = some (.dK (sdK l c (t + (i : Int)))) ∧ 0 ≤ l) ∧ KeptS H H' d) ⟨⟨_, rfl⟩, ⟨0, by rw [hd]; simp, by decide⟩, fun b o e _ => e⟩ ?_ ?_⟩
      · rintro i σ H' hi ⟨⟨v2, rfl⟩, ⟨l, hl, l0⟩, kp⟩
        refine ⟨_, rfl, d, _, rfl, dget_turns hl, _, _, rfl, rfl, _, rfl, d, _, rfl, dput_turns hl, ?_⟩
        refine ⟨_, rfl, d, _, rfl, dget_left upd_same, _, _, rfl, rfl, .inr ⟨by decide, by decide⟩, ?_⟩
        refine ⟨_, rfl, d, _, rfl, dget_cell upd_same, _, rfl, d, _, rfl, dget_turns upd_same, c, _, rfl, by omega, by omega, fun m H2 sm hm => ⟨_, _, rfl, rfl, _, rfl, d, _, rfl, dput_left (sm _ _ upd_same), ?_⟩⟩
        refine ⟨⟨_, rfl⟩, ⟨l * 2147483647 + (m : Int), ?_, by omega⟩, fun b o e hb => ?_⟩
        · rw [upd_same]
          have e : t + (i : Int) + 1 = t + ((i + 1 : Nat) : Int) := by omega
          rw [e]
        · rw [upd_ne hb]
          exact sm _ _ (by rw [upd_ne hb]; exact kp b o e hb)
      · rintro σ H' ⟨⟨v2, rfl⟩, ⟨l, hl, l0⟩, kp⟩
        have ht0 : 0 ≤ t + ((4 : Nat) : Int) := by omega
        have ht1 : t + ((4 : Nat) : Int) ≤ ((n + 4 : Nat) : Int) := by omega
        have hp : (0 : Int) < (b : Int) := by omega
        obtain ⟨m, em, hm⟩ := fmod_nat l (m := (b : Int)) hp
        refine ⟨_, rfl, d, _, rfl, dget_left hl, _, rfl, _, _, rfl, rfl, (by show (b : Int) ≠ 0; omega), ?_⟩
        dsimp only
        rw [em]
        refine ⟨_, rfl, d, _, rfl, dget_left hl, _, rfl, _, _, rfl, rfl, wide_div (b := 62) (by omega) (by omega) (by decide) (by decide), _, rfl, d, _, rfl, dput_left hl, ?_⟩
        refine ⟨_, rfl, q m _ (by omega) ⟨_, c, _, upd_same, ?_, ht0, ht1⟩ fun b o e hb => by rw [upd_ne hb]; exact kp b o e hb⟩
        exact Int.ediv_nonneg l0 (by omega)
    · have hl := hd
      have kp : KeptS H H d := fun b o e _ => e
      have ht0 : 0 ≤ t := t0
      have ht1 : t ≤ ((n + 4 : Nat) : Int) := by omega
      have hp : (0 : Int) < (b : Int) := by omega
      obtain ⟨m, em, hm⟩ := fmod_nat l (m := (b : Int)) hp
      refine ⟨_, rfl, d, _, rfl, dget_left hl, _, rfl, _, _, rfl, rfl, (by show (b : Int) ≠ 0; omega), ?_⟩
      dsimp only
      rw [em]
      refine ⟨_, rfl, d, _, rfl, dget_left hl, _, rfl, _, _, rfl, rfl, wide_div (b := 62) (by omega) (by omega) (by decide) (by decide), _, rfl, d, _, rfl, dput_left hl, ?_⟩
      refine ⟨_, rfl, q m _ (by omega) ⟨_, c, _, upd_same, ?_, ht0, ht1⟩ fun b o e hb => by rw [upd_ne hb]; exact kp b o e hb⟩
      exact Int.ediv_nonneg l0 (by omega)
end
end K01
set_option Elab.async false
set_option linter.all false
set_option maxRecDepth 100000
set_option maxHeartbeats 1000000
/-! Cm: comprehensions that map or filter, read at once; a list compared with the empty one -/
namespace Cm
open PySem PySem.Spec PyProof.Rows L2
theorem same_upd {H1 H : Hp} {D : Addr} {o : HO} (s : Same H1 H) (hD : H1 D = none) : Same H1 (upd H D o) := fun b u e => by
  rw [upd_ne (ne_of_none e hD)]
  exact s b u e
section
variable {J : It} {n : Nat} {G : Hp → Prop} {Y : Nat → Hp → V → Hp → Prop} {σ : L2.St} {vs : List Nat} {H1 : Hp} {D : Addr} {Qd : Hp → Prop} {g : TG} {tt : TT} {te : TE}
/-- [f x for x in ..]: rs the results -/
theorem lc_map (w : Walk J n G Y) (rs : List V) (hn : rs.length = n) (hz : n ≤ sizeLine) (hD : H1 D = none) (hG : ∀ H, Same H1 H → G H)
    (hs : ∀ i r x H H' (Qk : VK) (N : Hp → Prop), rs[i]? = some r → Same H1 H → Y i H x H' → (∀ H4, Same H H4 → Qk r H4) → g x (wipe σ vs) H' fun σ2 H2 => wipe σ2 vs = wipe σ vs ∧ tt σ2 H2 fun b H3 => if b = true then te σ2 H3 Qk else N H3)
    (hd : ∀ H, Same H1 H → H D = some (.lst rs) → Qd H) :
    ∃ W : Nat → Nat → Hp → Prop, (∃ m, W 0 m (upd H1 D (.lst []))) ∧ ∀ i m H, W i m H →
      (J.stop i H ∧ Qd H) ∨ (J.go i H ∧ ∃ Nx : Hp → Prop, (∀ H', Nx H' → ∃ m', m' < m ∧ W (i + 1) m' H') ∧ ∀ x H', J.yld i H x H' → g x (wipe σ vs) H' fun σ2 H2 => wipe σ2 vs = wipe σ vs ∧ tt σ2 H2 fun b H3 =>
        if b = true then te σ2 H3 fun y H4 => ∃ acc, H4 D = some (.lst acc) ∧ acc.length < sizeLine ∧ Nx (upd H4 D (.lst (acc ++ [y]))) else Nx H3) := by
  refine lc_it w (fun i H => Same H1 H ∧ H D = some (.lst (rs.take i))) ⟨same_upd (fun b o e => e) hD, by rw [List.take_zero]; exact upd_same⟩ (fun i H _ h => hG H h.1) (fun i x H H' hi h y => ?_) (fun H h => ?_)
  · have hr : rs[i]? = some (rs[i]'(by omega)) := List.getElem?_eq_getElem (by omega)
    refine hs i _ x H H' _ _ hr h.1 y fun H4 s4 => ⟨rs.take i, s4 _ _ h.2, by rw [List.length_take]; omega, same_upd (fun b o e => s4 _ _ (h.1 b o e)) hD, ?_⟩
    rw [upd_same, List.take_succ, hr]
    rfl
  · refine hd H h.1 ?_
    rw [h.2, ← hn, List.take_length]
/-- [x for x in .. if p x] -/
theorem lc_filt (w : Walk J n G Y) (xs : List V) (p : V → Bool) (hn : xs.length = n) (hz : n ≤ sizeLine) (hD : H1 D = none) (hG : ∀ H, Same H1 H → G H)
    (hs : ∀ i y x H H' (Qk : VK) (N : Hp → Prop), xs[i]? = some y → Same H1 H → Y i H x H' → (p y = true → ∀ H4, Same H H4 → Qk y H4) → (p y = false → ∀ H4, Same H H4 → N H4) → g x (wipe σ vs) H' fun σ2 H2 => wipe σ2 vs = wipe σ vs ∧ tt σ2 H2 fun b H3 => if b = true then te σ2 H3 Qk else N H3)
    (hd : ∀ H, Same H1 H → H D = some (.lst (xs.filter p)) → Qd H) :
    ∃ W : Nat → Nat → Hp → Prop, (∃ m, W 0 m (upd H1 D (.lst []))) ∧ ∀ i m H, W i m H →
      (J.stop i H ∧ Qd H) ∨ (J.go i H ∧ ∃ Nx : Hp → Prop, (∀ H', Nx H' → ∃ m', m' < m ∧ W (i + 1) m' H') ∧ ∀ x H', J.yld i H x H' → g x (wipe σ vs) H' fun σ2 H2 => wipe σ2 vs = wipe σ vs ∧ tt σ2 H2 fun b H3 =>
        if b = true then te σ2 H3 fun y H4 => ∃ acc, H4 D = some (.lst acc) ∧ acc.length < sizeLine ∧ Nx (upd H4 D (.lst (acc ++ [y]))) else Nx H3) := by
  refine lc_it w (fun i H => Same H1 H ∧ H D = some (.lst ((xs.take i).filter p))) ⟨same_upd (fun b o e => e) hD, by rw [List.take_zero]; exact upd_same⟩ (fun i H _ h => hG H h.1) (fun i x H H' hi h y => ?_) (fun H h => ?_)
  · have hr : xs[i]? = some (xs[i]'(by omega)) := List.getElem?_eq_getElem (by omega)
    have hlen : ((xs.take i).filter p).length < sizeLine := Nat.lt_of_le_of_lt (List.length_filter_le _ _) (by rw [List.length_take]; omega)
    have e1 : (xs.take (i + 1)).filter p = (xs.take i).filter p ++ (if p (xs[i]'(by omega)) = true then [xs[i]'(by omega)] else []) := by
      rw [List.take_succ, hr, List.filter_append]
      congr 1
      show [xs[i]'(by omega)].filter p = _
      cases hp : p (xs[i]'(by omega)) <;> simp [List.filter, hp]
    refine hs i _ x H H' _ _ hr h.1 y (fun hp H4 s4 => ⟨_, s4 _ _ h.2, hlen, same_upd (fun b o e => s4 _ _ (h.1 b o e)) hD, ?_⟩) (fun hp H4 s4 => ⟨fun b o e => s4 _ _ (h.1 b o e), ?_⟩)
    · rw [upd_same, e1, if_pos hp]
    · rw [e1, if_neg (by rw [hp]; exact Bool.false_ne_true), List.append_nil]
      exact s4 _ _ h.2
  · refine hd H h.1 ?_
    rw [h.2, ← hn, List.take_length]
/-- [.. for x in .. if ..]: whether it is empty -/
theorem lc_none (w : Walk J n G Y) (bs : List Bool) (hn : bs.length = n) (hz : n ≤ sizeLine) (hD : H1 D = none) (hG : ∀ H, Same H1 H → G H)
    (hs : ∀ i b x H H' (Qk : VK) (N : Hp → Prop), bs[i]? = some b → Same H1 H → Y i H x H' → (b = true → ∀ y H4, Same H H4 → Qk y H4) → (b = false → ∀ H4, Same H H4 → N H4) → g x (wipe σ vs) H' fun σ2 H2 => wipe σ2 vs = wipe σ vs ∧ tt σ2 H2 fun b H3 => if b = true then te σ2 H3 Qk else N H3)
    (hd : ∀ H ys, Same H1 H → H D = some (.lst ys) → ys.isEmpty = bs.all (fun b => !b) → Qd H) :
    ∃ W : Nat → Nat → Hp → Prop, (∃ m, W 0 m (upd H1 D (.lst []))) ∧ ∀ i m H, W i m H →
      (J.stop i H ∧ Qd H) ∨ (J.go i H ∧ ∃ Nx : Hp → Prop, (∀ H', Nx H' → ∃ m', m' < m ∧ W (i + 1) m' H') ∧ ∀ x H', J.yld i H x H' → g x (wipe σ vs) H' fun σ2 H2 => wipe σ2 vs = wipe σ vs ∧ tt σ2 H2 fun b H3 =>
        if b = true then te σ2 H3 fun y H4 => ∃ acc, H4 D = some (.lst acc) ∧ acc.length < sizeLine ∧ Nx (upd H4 D (.lst (acc ++ [y]))) else Nx H3) := by
  refine lc_it w (fun i H => Same H1 H ∧ ∃ ys, H D = some (.lst ys) ∧ ys.length ≤ i ∧ ys.isEmpty = (bs.take i).all (fun b => !b)) ⟨same_upd (fun b o e => e) hD, [], upd_same, Nat.le_refl _, rfl⟩ (fun i H _ h => hG H h.1) (fun i x H H' hi h y => ?_) (fun H h => ?_)
  · obtain ⟨sm, ys, e, hl, em⟩ := h
    have hr : bs[i]? = some (bs[i]'(by omega)) := List.getElem?_eq_getElem (by omega)
    have e1 : (bs.take (i + 1)).all (fun b => !b) = ((bs.take i).all (fun b => !b) && !(bs[i]'(by omega))) := by
      rw [List.take_succ, hr, List.all_append]
      show ((bs.take i).all (fun b => !b) && ((!(bs[i]'(by omega))) && true)) = _
      rw [Bool.and_true]
    refine hs i _ x H H' _ _ hr sm y (fun hb y H4 s4 => ⟨ys, s4 _ _ e, by omega, same_upd (fun b o e => s4 _ _ (sm b o e)) hD, ys ++ [y], upd_same, by rw [List.length_append]; show ys.length + 1 ≤ _; omega, ?_⟩) (fun hb H4 s4 => ⟨fun b o e => s4 _ _ (sm b o e), ys, s4 _ _ e, by omega, ?_⟩)
    · rw [e1, hb]
      simp
    · rw [e1, hb, em]
      simp
  · obtain ⟨sm, ys, e, hl, em⟩ := h
    rw [← hn, List.take_length] at em
    exact hd H ys sm e em
end
section
variable {X : Cx}
/-- xs == [] -/
theorem op_eqE (hu : X.A.units + 64 < cLine) : OpR X (compareOp .Eq) (fun x y H Q => ∃ a b xs, x = .ref a ∧ y = .ref b ∧ H a = some (.lst xs) ∧ H b = some (.lst []) ∧ Q (.bl xs.isEmpty) H) := by
  intro pins s σ H x y v u Q I rx ry h
  obtain ⟨a, b, xs, rfl, rfl, ha, hb, q⟩ := h
  cases xs with
  | nil => exact op_eqD hu pins s σ H _ _ v u Q I rx ry ⟨.list [], .list [], .lst (SqL.of ha) .nil, .lst (SqL.of hb) .nil, by decide +kernel, by decide +kernel, by
      have e : PyData.eqv (.list []) (.list []) = true := by decide +kernel
      rw [e]
      exact q⟩
  | cons z zs =>
    obtain ⟨its, n, r, e, _⟩ := I.lst ha
    obtain ⟨its2, n2, r2, e2, _⟩ := I.lst hb
    cases rx
    cases ry
    cases r2
    cases r with
    | cons r0 r1 =>
      refine P.eq_list_lengths (items := _) (items2 := _) e e2 (by simp) (by omega) ⟨.bl false, H, I, rfl, q⟩
/-- x is True -/
theorem is_true_gen {M : Model} {A : Around} {E : Value → Shared → Prop} {s : Shared} {Q : Value → Shared → Prop} {x : V} {v : Value} (r : RelV x v) (h : Q (.bool (decide (x = .bl true))) s) : wpAny M A (compareOp .Is v (.bool true)) Q E s := by
  cases x with
  | non => cases r; exact wpAny_pure (by rw [show decide (V.non = V.bl true) = false from rfl] at h; exact h)
  | bl b =>
    cases r
    refine PyProof.Rows.is_bool ?_
    have e : (b == true) = decide (V.bl b = V.bl true) := by cases b <;> rfl
    rw [e]
    exact h
  | int z =>
    obtain ⟨t, rfl⟩ := r
    rw [decide_eq_false (fun z => by cases z)] at h
    exact wpAny_pure h
  | str z =>
    obtain ⟨t, rfl⟩ := r
    rw [decide_eq_false (fun z => by cases z)] at h
    exact wpAny_pure h
  | byt z =>
    obtain ⟨t, rfl⟩ := r
    rw [decide_eq_false (fun z => by cases z)] at h
    exact wpAny_pure h
  | flt z =>
    obtain ⟨t, rfl⟩ := r
    rw [decide_eq_false (fun z => by cases z)] at h
    exact wpAny_pure h
  | ref a =>
    cases r
    rw [decide_eq_false (fun z => by cases z)] at h
    exact wpAny_pure h
  | ty n =>
    cases r
    rw [decide_eq_false (fun z => by cases z)] at h
    exact wpAny_pure h
def tIsT (ta : TE) : TE := fun σ H Q => ta σ H fun x H1 => Q (.bl (decide (x = .bl true))) H1
theorem pc_isT {a : Expr} {ta : TE} {j pos'} (ha : PE X a ta) : PC X .Is a (.Constant (.bool true) j pos') (tIsT ta) := by
  refine ⟨fun pins s σ H Q I h => ?_⟩
  refine thn (ha.run pins s σ H _ I h) fun v s1 ⟨x, H1, I1, r1, q1⟩ => ?_
  exact Constant_bool (is_true_gen r1 ⟨.bl _, H1, I1, rfl, q1⟩)
/-- an expression that is never come to -/
theorem pe_never {e : Expr} : PE X e (fun _ _ _ => False) := ⟨fun _ _ _ _ _ _ h => h.elim⟩
theorem op_neE (hu : X.A.units + 64 < cLine) : OpR X (compareOp .Eq) (fun x y H Q => ∃ a b xs, x = .ref a ∧ y = .ref b ∧ H a = some (.lst xs) ∧ H b = some (.lst []) ∧ Q (.bl xs.isEmpty) H) := op_eqE hu
end
end Cm
set_option Elab.async false
set_option linter.all false
set_option maxRecDepth 100000
set_option maxHeartbeats 1000000
namespace K01
open PySem L2 Xo
/-! ### values as data -/
inductive PT | non | bl (b : Bool) | int (z : Int) | str (s : Str) | tup (l : List PT) | oth
def PT.isInt : PT → Bool
  | .int _ => true
  | _ => false
def PT.isBl : PT → Bool
  | .bl _ => true
  | _ => false
def PT.isStr : PT → Bool
  | .str _ => true
  | _ => false
def PT.isTup : PT → Bool
  | .tup _ => true
  | _ => false
def PT.isNon : PT → Bool
  | .non => true
  | _ => false
/-- an instance of an own class: no built-in kind -/
structure InsB (K : PySem.W.Frag) (C : Addr) : Prop where
  cl : Cls K C
  ha : PySem.W.findIn K (.ref C) "__class__" = some (some (.builtin "object.__class__"))
  hn : PySem.W.specialIn K (.builtin "object.__class__") "__get__" = some (some (.builtin "getset_descriptor.__get__"))
  htk : PySem.W.takesIn K (.builtin "object.__class__") = some true
  hm : PySem.W.mroIn K C (.type "object") = some true
  ki : PySem.W.kitOne K (.ref C) (.type "int") = some false
  kb : PySem.W.kitOne K (.ref C) (.type "bool") = some false
  ks : PySem.W.kitOne K (.ref C) (.type "str") = some false
  kt : PySem.W.kitOne K (.ref C) (.type "tuple") = some false
  kk : ∀ CK, PySem.W.nsIn K mainGlobals "Key" = some (some (.ref CK)) → PySem.W.kitOne K (.ref C) (.ref CK) = some false
mutual
inductive RT (K : PySem.W.Frag) (H : Hp) : V → PT → Prop
  | non : RT K H .non .non
  | bl (b : Bool) : RT K H (.bl b) (.bl b)
  | int (z : Int) : RT K H (.int z) (.int z)
  | str (s : Str) (h : s.length ≤ 1000) : RT K H (.str s) (.str s)
  | tup {a : Addr} {vs : List V} {ts : List PT} (h : H a = some (.tup vs)) (r : RTs K H vs ts) (hl : vs.length ≤ 1000) : RT K H (.ref a) (.tup ts)
  | lst {a : Addr} {vs : List V} (h : H a = some (.lst vs)) : RT K H (.ref a) .oth
  | dk {a : Addr} {kvs : List (Key × V)} (h : H a = some (.dK kvs)) : RT K H (.ref a) .oth
  | ins {a C dx : Addr} {fs : List (Str × V)} (h : H a = some (.ins C dx fs)) (b : InsB K C) : RT K H (.ref a) .oth
inductive RTs (K : PySem.W.Frag) (H : Hp) : List V → List PT → Prop
  | nil : RTs K H [] []
  | cons {v : V} {t : PT} {vs : List V} {ts : List PT} (h : RT K H v t) (r : RTs K H vs ts) : RTs K H (v :: vs) (t :: ts)
end
mutual
theorem RT.same {K : PySem.W.Frag} {H H' : Hp} (s : Same H H') : ∀ {v : V} {t : PT}, RT K H v t → RT K H' v t
  | _, _, .non => .non
  | _, _, .bl b => .bl b
  | _, _, .int z => .int z
  | _, _, .str x h => .str x h
  | _, _, .tup h r hl => .tup (s _ _ h) (r.same s) hl
  | _, _, .lst h => .lst (s _ _ h)
  | _, _, .dk h => .dk (s _ _ h)
  | _, _, .ins h b => .ins (s _ _ h) b
theorem RTs.same {K : PySem.W.Frag} {H H' : Hp} (s : Same H H') : ∀ {vs : List V} {ts : List PT}, RTs K H vs ts → RTs K H' vs ts
  | _, _, .nil => .nil
  | _, _, .cons h r => .cons (h.same s) (r.same s)
end
theorem RTs.length {K : PySem.W.Frag} {H : Hp} : ∀ {vs : List V} {ts : List PT}, RTs K H vs ts → vs.length = ts.length
  | _, _, .nil => rfl
  | _, _, .cons _ r => by rw [List.length_cons, List.length_cons, r.length]
theorem RTs.get {K : PySem.W.Frag} {H : Hp} : ∀ {vs : List V} {ts : List PT} {i : Nat} {v : V}, RTs K H vs ts → vs[i]? = some v → ∃ t, ts[i]? = some t ∧ RT K H v t
  | _, _, _, _, .nil, e => by simp at e
  | _, _, 0, _, .cons h _, e => by simp at e; subst e; exact ⟨_, rfl, h⟩
  | _, _, i + 1, _, .cons _ r, e => by
    obtain ⟨t, h1, h2⟩ := RTs.get (i := i) r (by simpa using e)
    exact ⟨t, by simpa using h1, h2⟩
theorem RTs.app {K : PySem.W.Frag} {H : Hp} {v : V} {t : PT} : ∀ {vs : List V} {ts : List PT}, RTs K H vs ts → RT K H v t → RTs K H (vs ++ [v]) (ts ++ [t])
  | _, _, .nil, h => .cons h .nil
  | _, _, .cons h0 r, h => .cons h0 (r.app h)
/-- what isinstance answers of such a value -/
theorem rt_ty {K : PySem.W.Frag} {H : Hp} {v : V} {t : PT} (h : RT K H v t) : ∃ tv : Value, TyX K H v tv ∧ PySem.W.kitOne K tv (.type "int") = some (t.isInt || t.isBl) ∧ PySem.W.kitOne K tv (.type "bool") = some t.isBl ∧ PySem.W.kitOne K tv (.type "str") = some t.isStr ∧ PySem.W.kitOne K tv (.type "tuple") = some t.isTup := by
  cases h with
  | non => exact ⟨.type "NoneType", .base .non, kit_ty (r := false) (by decide +kernel), kit_ty (r := false) (by decide +kernel), kit_ty (r := false) (by decide +kernel), kit_ty (r := false) (by decide +kernel)⟩
  | bl b => exact ⟨.type "bool", .base (.bl _), kit_ty (r := true) (by decide +kernel), kit_ty (r := true) (by decide +kernel), kit_ty (r := false) (by decide +kernel), kit_ty (r := false) (by decide +kernel)⟩
  | int z => exact ⟨.type "int", .base (.int _), kit_ty (r := true) (by decide +kernel), kit_ty (r := false) (by decide +kernel), kit_ty (r := false) (by decide +kernel), kit_ty (r := false) (by decide +kernel)⟩
  | str s h => exact ⟨.type "str", .base (.str _), kit_ty (r := false) (by decide +kernel), kit_ty (r := false) (by decide +kernel), kit_ty (r := true) (by decide +kernel), kit_ty (r := false) (by decide +kernel)⟩
  | tup h r hl => exact ⟨.type "tuple", .base (.tup h), kit_ty (r := false) (by decide +kernel), kit_ty (r := false) (by decide +kernel), kit_ty (r := false) (by decide +kernel), kit_ty (r := true) (by decide +kernel)⟩
  | lst h => exact ⟨.type "list", .base (.lst h), kit_ty (r := false) (by decide +kernel), kit_ty (r := false) (by decide +kernel), kit_ty (r := false) (by decide +kernel), kit_ty (r := false) (by decide +kernel)⟩
  | dk h => exact ⟨.type "dict", .base (.dK h), kit_ty (r := false) (by decide +kernel), kit_ty (r := false) (by decide +kernel), kit_ty (r := false) (by decide +kernel), kit_ty (r := false) (by decide +kernel)⟩
  | ins h b => exact ⟨_, .base (.ins h b.cl b.ha b.hn b.htk b.hm), b.ki, b.kb, b.ks, b.kt⟩
/-- more built-ins -/
structure Bk (mg : Str → Option Value) : Prop where
  all : mg "all" = none
  ord : mg "ord" = none
  str : mg "str" = none
section
variable {P : Program} {w : World} {K : PySem.W.Frag} {mg : Str → Option Value} {base : Heap}
theorem pTy {X : Cx} {t : String} {pos : Pos} (hg : Gl X (Str.ofString t)) (hm : X.mg (Str.ofString t) = none) (hv : bootBuiltins (Str.ofString t) = some (.type t)) (hn : Str.ofString t ≠ "__name__" := by decide) (hd : (Str.ofString t == ("__debug__" : Str)) = false := by decide) : PE X (.Name (Str.ofString t) pos) (tC (.ty t)) := pe_bltn (v := .ty t) (u := .type t) hg hm hv rfl hn hd
/-! ### is_whole, is_between, is_code, need_code -/
abbrev sWhole : Stmt := top 17
abbrev sBetween : Stmt := top 18
abbrev sCode : Stmt := top 23
abbrev sNeedCode : Stmt := top 24
def spWhole (K : PySem.W.Frag) : Sp := fun vs H Q _ => ∃ (v : V) (t : PT), vs = [v] ∧ RT K H v t ∧ Q (.bl t.isInt) H
theorem scWhole : FnScope ["thing"] ["thing"] (defScope sWhole) := ⟨rfl, rfl, rfl, by decide +kernel, rfl, by decide +kernel, by decide +kernel⟩
theorem ok_whole {f : Addr} {fd : FuncData} (D : Df K mg "is_whole" "is_whole" sWhole ["thing"] f fd) (T : Bl mg) : FnOk P w K mg base CX0 1 f fd ["thing"] (spWhole K) := by
  refine D.F.ok scWhole (fun vs H Q E h => ?_) (fun cdv A outer s H vs Q E hr h => ?_)
  · obtain ⟨v, t, rfl, _⟩ := h
    rfl
  · obtain ⟨v, t, rfl, o, k⟩ := h
    obtain ⟨tv, ty, e1, e2, _⟩ := rt_ty o
    refine ⟨_, pss_one (ps_ret (pe_and (pe_callB call_isi (by rfl) T.isinstance (by decide +kernel) (pa_cons (pv 0) (pa_cons (pInt (by rfl) T.int) pa_nil)))
      (pe_one (pe_not (pe_callB call_isi (by rfl) T.isinstance (by decide +kernel) (pa_cons (pv 0) (pa_cons (pBool (by rfl) T.bool) pa_nil))))))), ?_⟩
    refine ⟨_, rfl, _, _, _, _, _, rfl, .ty _, ty, e1, _, rfl, ?_⟩
    refine ite2 (fun e => ?_) (fun e => ?_)
    · refine ⟨_, rfl, _, _, _, _, _, rfl, .ty _, ty, e2, _, rfl, ?_⟩
      have : (!t.isBl) = t.isInt := by
        cases t <;> first | rfl | simp_all [PT.isInt, PT.isBl]
      rw [this]
      exact k
    · have : t.isInt = false := by
        cases t <;> first | rfl | simp_all [PT.isInt, PT.isBl]
      rw [this] at k
      exact k
/-- lo <= t <= hi -/
def btw (t : PT) (lo hi : Int) : Bool := match t with
  | .int n => decide (lo ≤ n) && decide (n ≤ hi)
  | _ => false
def spBetween (K : PySem.W.Frag) : Sp := fun vs H Q _ => ∃ (v : V) (t : PT) (lo hi : Int), vs = [v, .int lo, .int hi] ∧ RT K H v t ∧ Q (.bl (btw t lo hi)) H
theorem scBetween : FnScope ["thing", "low", "high"] ["thing", "low", "high"] (defScope sBetween) := ⟨rfl, rfl, rfl, by decide +kernel, rfl, by decide +kernel, by decide +kernel⟩
theorem rt_int {H : Hp} {v : V} {t : PT} (h : RT K H v t) (e : t.isInt = true) : ∃ n, v = .int n ∧ t = .int n := by
  cases h with
  | int z => exact ⟨z, rfl, rfl⟩
  | _ => cases e
theorem ok_between {f f1 : Addr} {fd fd1 : FuncData} (D : Df K mg "is_between" "is_between" sBetween ["thing", "low", "high"] f fd) (D1 : Df K mg "is_whole" "is_whole" sWhole ["thing"] f1 fd1) (G1 : FnOk P w K mg base CX0 1 f1 fd1 ["thing"] (spWhole K)) :
    FnOk P w K mg base CX0 2 f fd ["thing", "low", "high"] (spBetween K) := by
  refine D.F.ok scBetween (fun vs H Q E h => ?_) (fun cdv A outer s H vs Q E hr h => ?_)
  · obtain ⟨n, t, lo, hi, rfl, _⟩ := h
    rfl
  · obtain ⟨v, t, lo, hi, rfl, o, k⟩ := h
    refine ⟨_, pss_one (ps_ret (pe_and (pe_call G1 hr rfl D1.g D1.F.kp D1.b .nil pass0 (pa_cons (pv 0) pa_nil)) (pe_one (pe_chain op_le op_le (pv 1) (pv 0) (pv 2))))), ?_⟩
    refine ⟨_, rfl, _, _, rfl, o, _, rfl, ?_⟩
    refine ite2 (fun e => ?_) (fun e => ?_)
    · obtain ⟨n, rfl, rfl⟩ := rt_int o e
      refine ⟨_, rfl, _, rfl, _, _, rfl, rfl, _, rfl, ?_⟩
      have k : Q (.bl (decide (lo ≤ n) && decide (n ≤ hi))) H := k
      refine ite2 (fun e => ?_) (fun e => ?_)
      · refine ⟨_, rfl, _, _, rfl, rfl, ?_⟩
        rw [e, Bool.true_and] at k
        exact k
      · rw [Bool.eq_false_iff.mpr e, Bool.false_and] at k
        exact k
    · have : btw t lo hi = false := by
        cases t <;> first | rfl | exact absurd rfl e
      rw [this] at k
      exact k
/-- is it a code -/
def PT.isCode (t : PT) : Bool := btw t 0 4294967295
theorem code_int {t : PT} (h : t.isCode = true) : ∃ n : Nat, t = .int (n : Int) ∧ n < 4294967296 := by
  cases t with
  | int z =>
    have h : (decide (0 ≤ z) && decide (z ≤ 4294967295)) = true := h
    rw [Bool.and_eq_true, decide_eq_true_iff, decide_eq_true_iff] at h
    refine ⟨z.toNat, ?_, by omega⟩
    congr 1
    omega
  | _ => cases h
theorem code_nat {n : Nat} (h : n < 4294967296) : PT.isCode (.int (n : Int)) = true := by
  show (decide ((0 : Int) ≤ n) && decide ((n : Int) ≤ 4294967295)) = true
  rw [decide_eq_true (by omega), decide_eq_true (by omega)]
  rfl
def spCode (K : PySem.W.Frag) : Sp := fun vs H Q _ => ∃ (v : V) (t : PT), vs = [v] ∧ RT K H v t ∧ Q (.bl t.isCode) H
theorem scCode : FnScope ["thing"] ["thing"] (defScope sCode) := ⟨rfl, rfl, rfl, by decide +kernel, rfl, by decide +kernel, by decide +kernel⟩
theorem ok_code {f f1 : Addr} {fd fd1 : FuncData} {t : Tok} (D : Df K mg "is_code" "is_code" sCode ["thing"] f fd) (D1 : Df K mg "is_between" "is_between" sBetween ["thing", "low", "high"] f1 fd1) (G1 : FnOk P w K mg base CX0 2 f1 fd1 ["thing", "low", "high"] (spBetween K))
    (mC : mg "CODES" = some (.int 4294967296 t)) : FnOk P w K mg base CX0 3 f fd ["thing"] (spCode K) := by
  refine D.F.ok scCode (fun vs H Q E h => ?_) (fun cdv A outer s H vs Q E hr h => ?_)
  · obtain ⟨n, t, rfl, _⟩ := h
    rfl
  · obtain ⟨v, t, rfl, o, k⟩ := h
    refine ⟨_, pss_one (ps_ret (pe_call G1 hr rfl D1.g D1.F.kp D1.b .nil pass0 (pa_cons (pv 0) (pa_cons pe_int (pa_cons (pe_op op_sub (pe_glob (v := .int 4294967296) rfl mC ⟨_, rfl⟩) pe_int) pa_nil))))), ?_⟩
    exact ⟨_, rfl, _, _, rfl, rfl, _, _, _, _, rfl, o, k⟩
/-- a class of errors, as this text has it -/
structure XK (P : Program) (w : World) (K : PySem.W.Frag) (mg : Str → Option Value) (base : Heap) (name : Str) (C : Addr) (fld : Str) : Prop where
  g : mg name = some (.ref C)
  T : XC K C
  no : PySem.W.findIn K (.ref C) fld = some none
  ini : ∃ (fI : Addr) (fd : FuncData), PySem.W.findIn K (.ref C) "__init__" = some (some (.ref fI)) ∧ PySem.W.typeIn K (.ref fI) = some (.type "function") ∧ Binds K fd ["self", fld] [] ∧ FnOk P w K mg base CX0 1 fI fd ["self", fld] (spXI K fld)
theorem XK.to {X : Cx} {name : Str} {C : Addr} {fld : Str} (h : XK X.prog X.w X.K X.mg X.base name C fld) : XI X C fld := ⟨h.T, h.no, h.ini⟩
/-- the way out by an error of the class at C -/
def OutE (C : Addr) (fld : Str) (H : Hp) (E : L2.XK) : Prop := ∀ (d : Addr) (y : V), H d = none → E (.ref C) (some d) (upd H d (.xd [(fld, y)]))
def spNeedCode (K : PySem.W.Frag) (C : Addr) : Sp := fun vs H Q E => ∃ (v : V) (t : PT), vs = [v] ∧ RT K H v t ∧ (t.isCode = true → Q .non H) ∧ (t.isCode = false → OutE C "reason" H E)
theorem scNeedCode : FnScope ["thing"] ["thing"] (defScope sNeedCode) := ⟨rfl, rfl, rfl, by decide +kernel, rfl, by decide +kernel, by decide +kernel⟩
theorem ok_needCode {f f1 C : Addr} {fd fd1 : FuncData} (D : Df K mg "need_code" "need_code" sNeedCode ["thing"] f fd) (D1 : Df K mg "is_code" "is_code" sCode ["thing"] f1 fd1) (G1 : FnOk P w K mg base CX0 3 f1 fd1 ["thing"] (spCode K)) (x : XK P w K mg base "BadCode" C "reason") :
    FnOk P w K mg base (L2.CX P w) 4 f fd ["thing"] (spNeedCode K C) := by
  refine D.F.okX scNeedCode (fun vs H Q E h => ?_) (fun cdv A outer s H vs Q E hr h => ?_)
  · obtain ⟨n, t, rfl, _⟩ := h
    rfl
  · obtain ⟨v, t, rfl, o, k1, k2⟩ := h
    refine ⟨_, pss_one (ps_if (pt_not (pt_val (pe_call G1 hr rfl D1.g D1.F.kp D1.b .nil pass0 (pa_cons (pv 0) pa_nil)))) (pss_one (ps_raise rfl (takes_of rfl rfl rfl rfl) (pmk_x (XK.to x) (hr.mono (by decide)) rfl x.g (pa_cons pe_str pa_nil)))) pss_nil), ?_⟩
    refine ⟨_, rfl, _, _, rfl, o, _, rfl, ?_⟩
    cases hc : t.isCode with
    | false => exact iteYes rfl ⟨_, rfl, fun d hd => k2 hc d _ hd⟩
    | true => exact iteNo rfl (k1 hc)
/-! ### texts -/
abbrev sText : Stmt := top 19
abbrev sSign : Stmt := top 20
def okSign (n : Nat) : Bool := decide (32 ≤ n) && decide (n ≤ 126) && !decide (n = 37)
def PT.okText : PT → Bool
  | .str s => decide (s.length ≤ 40) && s.cps.toList.all okSign
  | _ => false
/-- the constants -/
structure Ck (mg : Str → Option Value) : Prop where
  codes : ∃ t, mg "CODES" = some (.int 4294967296 t)
  signs : ∃ t, mg "MAX_SIGNS" = some (.int 40 t)
  first : ∃ t, mg "FIRST_SIGN" = some (.int 32 t)
  last : ∃ t, mg "LAST_SIGN" = some (.int 126 t)
  perc : ∃ t, mg "PERCENT_SIGN" = some (.int 37 t)
def spSign : Sp := fun vs H Q _ => ∃ n : Nat, vs = [.int (n : Int)] ∧ Q (.bl (okSign n)) H
theorem scSign : FnScope ["number"] ["number"] (defScope sSign) := ⟨rfl, rfl, rfl, by decide +kernel, rfl, by decide +kernel, by decide +kernel⟩
theorem ok_sign {f : Addr} {fd : FuncData} (D : Df K mg "_is_sign" "_is_sign" sSign ["number"] f fd) (C : Ck mg) : FnOk P w K mg base CX0 1 f fd ["number"] spSign := by
  obtain ⟨t1, c1⟩ := C.first
  obtain ⟨t2, c2⟩ := C.last
  obtain ⟨t3, c3⟩ := C.perc
  refine D.F.ok scSign (fun vs H Q E h => ?_) (fun cdv A outer s H vs Q E hr h => ?_)
  · obtain ⟨n, rfl, _⟩ := h
    rfl
  · obtain ⟨n, rfl, k⟩ := h
    refine ⟨_, pss_one (ps_ret (pe_and (pe_chain op_le op_le (pe_glob (v := .int 32) rfl c1 ⟨_, rfl⟩) (pv 0) (pe_glob (v := .int 126) rfl c2 ⟨_, rfl⟩)) (pe_one (pe_cmpR op_ne (pv 0) (pe_glob (v := .int 37) rfl c3 ⟨_, rfl⟩) (nomark _))))), ?_⟩
    refine ⟨_, rfl, _, _, rfl, rfl, _, rfl, ?_⟩
    unfold okSign at k
    have e1 : decide ((32 : Int) ≤ (n : Int)) = decide (32 ≤ n) := decide_eq_decide.mpr (by omega)
    have e2 : decide ((n : Int) ≤ (126 : Int)) = decide (n ≤ 126) := decide_eq_decide.mpr (by omega)
    refine ite2 (fun e => ?_) (fun e => ?_)
    · rw [← e1, e, Bool.true_and] at k
      refine ⟨_, _, rfl, rfl, _, rfl, ?_⟩
      refine ite2 (fun e => ?_) (fun e => ?_)
      · rw [← e2, e, Bool.true_and] at k
        refine ⟨_, rfl, rfl, ?_⟩
        have e3 : decide (V.int (n : Int) = V.int 37) = decide (n = 37) := decide_eq_decide.mpr ⟨fun h => by have := V.int.inj h; omega, fun h => by rw [h]; rfl⟩
        rw [e3]
        exact k
      · rw [← e2, Bool.eq_false_iff.mpr e, Bool.false_and] at k
        exact k
    · rw [← e1, Bool.eq_false_iff.mpr e, Bool.false_and, Bool.false_and] at k
      exact ⟨_, rfl, iteNo rfl k⟩
end
end K01
set_option Elab.async false
set_option linter.all false
set_option maxRecDepth 100000
set_option maxHeartbeats 2000000
namespace K01
open PySem L2 Xo
section
variable {P : Program} {w : World} {K : PySem.W.Frag} {mg : Str → Option Value} {base : Heap}
def spText (K : PySem.W.Frag) : Sp := fun vs H Q _ => ∃ (v : V) (t : PT), vs = [v] ∧ RT K H v t ∧ ∀ H', Same H H' → Q (.bl t.okText) H'
theorem scText : FnScope ["thing", "sign"] ["thing"] (defScope sText) := ⟨rfl, rfl, rfl, by decide +kernel, rfl, by decide +kernel, by decide +kernel⟩
theorem sign_at {s : Str} {i : Nat} {r : V} (h : ((s.cps.toList.map okSign).map V.bl)[i]? = some r) {c : Nat} (hc : s.cps[i]? = some c) : r = .bl (okSign c) := by
  have hc2 : s.cps.toList[i]? = some c := by
    rw [Array.getElem?_toList]
    exact hc
  rw [List.map_map, List.getElem?_map, hc2] at h
  exact (Option.some.inj h).symm
theorem ok_text {f f1 : Addr} {fd fd1 : FuncData} (D : Df K mg "is_text" "is_text" sText ["thing"] f fd) (B : Bl mg) (B2 : Bk mg) (C : Ck mg) (D1 : Df K mg "_is_sign" "_is_sign" sSign ["number"] f1 fd1) (G1 : FnOk P w K mg base CX0 1 f1 fd1 ["number"] spSign) :
    FnOk P w K mg base CX0 2 f fd ["thing"] (spText K) := by
  obtain ⟨t1, c1⟩ := C.signs
  refine D.F.ok scText (fun vs H Q E h => ?_) (fun cdv A outer s H vs Q E hr h => ?_)
  · obtain ⟨v, t, rfl, _⟩ := h
    rfl
  · obtain ⟨v, t, rfl, o, k⟩ := h
    obtain ⟨tv, ty, _, _, e3, _⟩ := rt_ty o
    refine ⟨_, pss_cons (ps_if (PW.pt (pw_or (pt_not (pt_val (pe_callB call_isi (by rfl) B.isinstance (by decide +kernel) (pa_cons (pv 0) (pa_cons (pTy (t := "str") (by rfl) B2.str (by decide +kernel)) pa_nil))))) (pw_or1 (pt_cmpR op_gt (pe_callB call_len_str (by rfl) B.len PySem.boot_len (pa_cons (pv 0) pa_nil)) (pe_glob (v := .int 40) rfl c1 ⟨_, rfl⟩) (nomark _))))) (pss_one (ps_ret pe_bl)) pss_nil)
      (pss_one (ps_ret (pe_callB (cr_all rfl) (by rfl) B2.all (by decide +kernel) (pa_cons (pe_lc (own := [("sign", 1)]) (g := gName 1) (tt := tYes) rfl scText.nd (pi_str (pv 0)) (blkOk_by (own := [("sign", 1)]) (N := ["thing", "sign"]) (sc := defScope sText) (by decide +kernel)) (fun _ _ _ _ _ => pg_name (i := 1) scText.nd rfl (Or.inl rfl)) (fun _ _ _ _ _ => pts_nil)
        (fun _ _ _ _ _ => pe_call G1 (hr.mono (by decide)) rfl D1.g D1.F.kp D1.b .nil pass0 (pa_cons (pe_callB call_ord (by rfl) B2.ord (by decide +kernel) (pa_cons (pv 1) pa_nil)) pa_nil))) pa_nil)))), ?_⟩
    refine ⟨_, rfl, _, _, _, _, _, rfl, .ty _, ty, e3, _, rfl, ?_⟩
    cases o with
    | str z hz =>
      refine iteNo rfl ?_
      have hz2 : z.length ≤ sizeLine := Nat.le_trans hz (by decide)
      refine ⟨_, rfl, z, rfl, hz2, _, _, rfl, rfl, _, rfl, ?_⟩
      have e : decide ((z.length : Int) > 40) = !decide (z.length ≤ 40) := by
        by_cases h : z.length ≤ 40
        · rw [decide_eq_true h, decide_eq_false (by omega)]; rfl
        · rw [decide_eq_false h, decide_eq_true (by omega)]; rfl
      rw [e]
      have k : ∀ H', Same H H' → Q (.bl (decide (z.length ≤ 40) && z.cps.toList.all okSign)) H' := k
      by_cases h : z.length ≤ 40
      · rw [decide_eq_true h] at k ⊢
        refine iteNo rfl ⟨_, rfl, z, rfl, fun Dl hD => ?_⟩
        refine Cm.lc_map (walk_str (z := z)) ((z.cps.toList.map okSign).map V.bl) (by rw [List.length_map, List.length_map, Array.length_toList]) hz2 hD (fun _ _ => trivial) (fun i r x H2 H3 Qk N hr2 sm hy hQ => ?_) (fun H2 sm hl => ?_)
        · obtain ⟨rfl, c, hc, rfl⟩ := hy
          have hr3 := sign_at hr2 hc
          subst hr3
          refine ⟨rfl, ?_⟩
          exact ⟨_, rfl, _, rfl, rfl, c, rfl, hQ _ fun _ _ z => z⟩
        · refine ⟨_, z.cps.toList.map okSign, rfl, SqL.of hl, ?_⟩
          rw [List.all_map]
          exact k _ sm
      · rw [decide_eq_false h] at k ⊢
        exact iteYes rfl (k _ fun _ _ z => z)
    | non => exact iteYes rfl (k _ fun _ _ z => z)
    | bl b => exact iteYes rfl (k _ fun _ _ z => z)
    | int z => exact iteYes rfl (k _ fun _ _ z => z)
    | tup h r hl => exact iteYes rfl (k _ fun _ _ z => z)
    | lst h => exact iteYes rfl (k _ fun _ _ z => z)
    | dk h => exact iteYes rfl (k _ fun _ _ z => z)
    | ins h b => exact iteYes rfl (k _ fun _ _ z => z)
end
end K01
set_option Elab.async false
set_option linter.all false
set_option maxRecDepth 100000
set_option maxHeartbeats 2000000
namespace K01
open PySem L2 Xo
/-! ### plain keys, and their codes -/
abbrev sPlain : Stmt := top 21
abbrev sWithin : Stmt := top 22
abbrev sFolded : Stmt := top 27
abbrev sCodeP : Stmt := top 26
abbrev sCodeOf : Stmt := top 25
def pl : Nat → PT → Bool
  | 0, .tup _ => false
  | d + 1, .tup l => decide (l.length ≤ 6) && l.all (pl d)
  | _, .non => true
  | _, .int _ => true
  | _, .str s => PT.okText (.str s)
  | _, _ => false
def PT.plain (t : PT) : Bool := pl 3 t
def foldC (start factor : Nat) (l : List Nat) : Nat := l.foldl (fun h x => (factor * h + x) % 4294967296) start
def cd : Nat → PT → Nat
  | d + 1, .tup l => (foldC 41 1000003 (l.map (cd d)) + l.length) % 4294967296
  | _, .non => 1297303124
  | _, .int z => (z.fmod 4294967296).toNat
  | _, .str s => foldC 17 33 s.cps.toList
  | _, _ => 0
def PT.code (t : PT) : Nat := cd 3 t
theorem pl_flat {d : Nat} {t : PT} (h : t.isTup = false) : pl d t = (t.isNon || t.isInt || t.okText) := by
  cases d <;> cases t <;> first | rfl | cases h
theorem fold_lt {start factor : Nat} (hs : start < 4294967296) : ∀ (l : List Nat), foldC start factor l < 4294967296 := by
  intro l
  unfold foldC
  induction l generalizing start with
  | nil => exact hs
  | cons x l ih => exact ih (Nat.mod_lt _ (by decide))
theorem cd_lt (d : Nat) (t : PT) : cd d t < 4294967296 := by
  have hi : ∀ z : Int, (z.fmod 4294967296).toNat < 4294967296 := fun z => by
    rw [Int.fmod_eq_emod_of_nonneg _ (by decide)]
    have := Int.emod_lt_of_pos z (show (0 : Int) < 4294967296 by decide)
    omega
  cases d with
  | zero =>
    cases t with
    | non => show 1297303124 < 4294967296; decide
    | int z => exact hi z
    | str s => exact fold_lt (by decide) _
    | bl b => show 0 < 4294967296; decide
    | tup l => show 0 < 4294967296; decide
    | oth => show 0 < 4294967296; decide
  | succ d =>
    cases t with
    | non => show 1297303124 < 4294967296; decide
    | int z => exact hi z
    | str s => exact fold_lt (by decide) _
    | bl b => show 0 < 4294967296; decide
    | tup l => exact Nat.mod_lt _ (by decide)
    | oth => show 0 < 4294967296; decide
/-- more constants -/
structure Cq (mg : Str → Option Value) : Prop where
  items : ∃ t, mg "MAX_ITEMS" = some (.int 6 t)
  depth : ∃ t, mg "MAX_DEPTH" = some (.int 3 t)
  nonc : ∃ t, mg "NONE_CODE" = some (.int 1297303124 t)
  ts : ∃ t, mg "TEXT_START" = some (.int 17 t)
  tf : ∃ t, mg "TEXT_FACTOR" = some (.int 33 t)
  us : ∃ t, mg "TUPLE_START" = some (.int 41 t)
  uf : ∃ t, mg "TUPLE_FACTOR" = some (.int 1000003 t)
theorem rt_notup {K : PySem.W.Frag} {H : Hp} {v : V} {t : PT} (h : RT K H v t) : decide (v = V.non) = t.isNon := by
  cases h <;> first | exact decide_eq_true rfl | exact decide_eq_false (fun z => by cases z)
section
variable {P : Program} {w : World} {K : PySem.W.Frag} {mg : Str → Option Value} {base : Heap}
def spWithin (K : PySem.W.Frag) (d : Nat) : Sp := fun vs H Q _ => ∃ (v : V) (t : PT), vs = [v, .int (d : Int)] ∧ RT K H v t ∧ ∀ H', Same H H' → Q (.bl (pl d t)) H'
theorem scWithin : FnScope ["thing", "depth", "item"] ["thing", "depth"] (defScope sWithin) := ⟨rfl, rfl, rfl, by decide +kernel, rfl, by decide +kernel, by decide +kernel⟩
theorem ok_within {f f1 f2 : Addr} {fd fd1 fd2 : FuncData} (D : Df K mg "_is_plain_within" "_is_plain_within" sWithin ["thing", "depth"] f fd) (B : Bl mg) (B2 : Bk mg) (C : Cq mg) (D1 : Df K mg "is_whole" "is_whole" sWhole ["thing"] f1 fd1) (G1 : FnOk P w K mg base CX0 1 f1 fd1 ["thing"] (spWhole K))
    (D2 : Df K mg "is_text" "is_text" sText ["thing"] f2 fd2) (G2 : FnOk P w K mg base CX0 2 f2 fd2 ["thing"] (spText K)) : ∀ d : Nat, FnOk P w K mg base CX0 (3 + d) f fd ["thing", "depth"] (spWithin K d) := by
  obtain ⟨t1, c1⟩ := C.items
  -- what follows when it is no tuple
  have tail : ∀ {k : Nat} {A : Around} {outer : List Env} {s : Shared} {H0 : Hp} {E : L2.XK} {cdv : Value}, 2 ≤ k → Room k (A.deeper (PyProof.Rows.envOfC "_is_plain_within" (defScope sWithin) s.heap.objs.size f cdv)) →
      ∃ t, PSs (cxOf CX0 P w K mg base ["thing", "depth", "item"] "_is_plain_within" (defScope sWithin) f cdv A outer s H0 E).nox ((defBody sWithin).drop 1) t ∧ ∀ D v dd ii H tt, RT K H v tt → (∀ H', Same H H' → D.rt (.bl (tt.isNon || tt.isInt || tt.okText)) H') → t D [some v, dd, ii] H := by
    intro k A outer s H0 E cdv hk hr
    refine ⟨_, pss_one (ps_ret (pe_or (pe_cmp (pc_isN (pv 0))) (pe_or (pe_call G1 (hr.mono (by omega)) rfl D1.g D1.F.kp D1.b .nil pass0 (pa_cons (pv 0) pa_nil)) (pe_one (pe_call G2 (hr.mono hk) rfl D2.g D2.F.kp D2.b .nil pass0 (pa_cons (pv 0) pa_nil)))))), fun D v dd ii H tt rt q => ?_⟩
    refine ⟨_, rfl, _, rfl, ?_⟩
    rw [rt_notup rt]
    refine ite2 (fun e => ?_) (fun e => ?_)
    · rw [e, Bool.true_or, Bool.true_or] at q
      exact q _ fun _ _ z => z
    rw [Bool.eq_false_iff.mpr e, Bool.false_or] at q
    refine ⟨_, rfl, _, _, rfl, rt, _, rfl, ?_⟩
    refine ite2 (fun e => ?_) (fun e => ?_)
    · rw [e, Bool.true_or] at q
      exact q _ fun _ _ z => z
    rw [Bool.eq_false_iff.mpr e, Bool.false_or] at q
    exact ⟨_, rfl, _, _, rfl, rt, q⟩
  intro d
  induction d with
  | zero =>
    refine D.F.ok scWithin (fun vs H Q E h => ?_) (fun cdv A outer s H vs Q E hr h => ?_)
    · obtain ⟨v, t, rfl, _⟩ := h
      rfl
    · obtain ⟨v, t, rfl, o, k⟩ := h
      obtain ⟨tv, ty, _, _, _, e4⟩ := rt_ty o
      obtain ⟨tl, hs, qT⟩ := tail (H0 := H) (E := E) (s := s) (outer := outer) (cdv := cdv) (Nat.le_refl 2) hr
      refine ⟨_, pss_cons (ps_if (pt_val (pe_callB call_isi (by rfl) B.isinstance (by decide +kernel) (pa_cons (pv 0) (pa_cons (pTy (t := "tuple") (by rfl) B.tuple (by decide +kernel)) pa_nil))))
          (pss_cons (ps_if (PW.pt (pw_or (pt_cmpR op_eq (pv 1) pe_int (nomark _)) (pw_or1 (pt_cmpR op_gt (pe_callB call_len_seq (by rfl) B.len PySem.boot_len (pa_cons (pv 0) pa_nil)) (pe_glob (v := .int 6) rfl c1 ⟨_, rfl⟩) (nomark _))))) (pss_one (ps_ret pe_bl)) pss_nil) (pss_one ps_never)) pss_nil) hs, ?_⟩
      refine ⟨_, rfl, _, _, _, _, _, rfl, .ty _, ty, e4, _, rfl, ?_⟩
      cases ht : t.isTup with
      | true =>
        refine iteYes rfl ⟨_, rfl, rfl, _, rfl, iteYes (decide_eq_true rfl) ?_⟩
        have : pl 0 t = false := by
          cases t with
          | tup l => rfl
          | _ => cases ht
        rw [this] at k
        exact k _ fun _ _ z => z
      | false =>
        refine iteNo rfl (qT _ v _ _ H t o fun H' s' => ?_)
        rw [← pl_flat (d := 0) ht]
        exact k H' s'
  | succ d ih =>
    refine D.F.ok scWithin (fun vs H Q E h => ?_) (fun cdv A outer s H vs Q E hr h => ?_)
    · obtain ⟨v, t, rfl, _⟩ := h
      rfl
    · obtain ⟨v, t, rfl, o, k⟩ := h
      obtain ⟨tv, ty, _, _, _, e4⟩ := rt_ty o
      obtain ⟨tl, hs, qT⟩ := tail (H0 := H) (E := E) (s := s) (outer := outer) (cdv := cdv) (show 2 ≤ 3 + d by omega) hr
      refine ⟨_, pss_cons (ps_if (pt_val (pe_callB call_isi (by rfl) B.isinstance (by decide +kernel) (pa_cons (pv 0) (pa_cons (pTy (t := "tuple") (by rfl) B.tuple (by decide +kernel)) pa_nil))))
          (pss_cons (ps_if (PW.pt (pw_or (pt_cmpR op_eq (pv 1) pe_int (nomark _)) (pw_or1 (pt_cmpR op_gt (pe_callB call_len_seq (by rfl) B.len PySem.boot_len (pa_cons (pv 0) pa_nil)) (pe_glob (v := .int 6) rfl c1 ⟨_, rfl⟩) (nomark _))))) (pss_one (ps_ret pe_bl)) pss_nil)
          (pss_one (ps_ret (pe_callB (cr_all rfl) (by rfl) B2.all (by decide +kernel) (pa_cons (pe_lc (own := [("item", 2)]) (g := gName 2) (tt := tYes) rfl scWithin.nd (pi_tup (pv 0)) (blkOk_by (own := [("item", 2)]) (N := ["thing", "depth", "item"]) (sc := defScope sWithin) (by decide +kernel)) (fun _ _ _ _ _ => pg_name (i := 2) scWithin.nd rfl (Or.inl rfl)) (fun _ _ _ _ _ => pts_nil)
            (fun _ _ _ _ _ => pe_call ih hr rfl D.g D.F.kp D.b .nil pass0 (pa_cons (pv 2) (pa_cons (pe_op op_sub (pv 1) pe_int) pa_nil)))) pa_nil))))) pss_nil) hs, ?_⟩
      refine ⟨_, rfl, _, _, _, _, _, rfl, .ty _, ty, e4, _, rfl, ?_⟩
      cases o with
      | @tup a vs ts h r hl =>
        refine iteYes rfl ⟨_, rfl, rfl, _, rfl, iteNo (decide_eq_false fun z => by have := V.int.inj z; omega) ?_⟩
        refine ⟨_, rfl, a, _, rfl, .inr (SqT.of h), _, _, rfl, rfl, _, rfl, ?_⟩
        have k : ∀ H', Same H H' → Q (.bl (decide (ts.length ≤ 6) && ts.all (pl d))) H' := k
        rw [r.length]
        have e : decide (((ts.length : Nat) : Int) > 6) = !decide (ts.length ≤ 6) := by
          by_cases h : ts.length ≤ 6
          · rw [decide_eq_true h, decide_eq_false (by omega)]; rfl
          · rw [decide_eq_false h, decide_eq_true (by omega)]; rfl
        rw [e]
        by_cases h6 : ts.length ≤ 6
        · rw [decide_eq_true h6] at k ⊢
          refine iteNo rfl ⟨_, rfl, a, rfl, ⟨_, SqT.of h⟩, fun Dl hD => ?_⟩
          refine Cm.lc_map (walk_tup (K := K) (a := a) (xs := vs)) ((ts.map (pl d)).map V.bl) (by rw [List.length_map, List.length_map, r.length]) (Nat.le_trans hl (by decide)) hD (fun _ sm => SqT.of (sm _ _ h)) (fun i x y H2 H3 Qk N hr2 sm hy hQ => ?_) (fun H2 sm hl2 => ?_)
          · obtain ⟨rfl, hx⟩ := hy
            obtain ⟨t, ht, rt⟩ := r.get hx
            have hr3 : x = .bl (pl d t) := by
              rw [List.map_map, List.getElem?_map, ht] at hr2
              exact (Option.some.inj hr2).symm
            subst hr3
            refine ⟨rfl, ?_⟩
            exact ⟨_, rfl, _, rfl, _, _, rfl, rfl, y, t, congrArg (fun z => [y, V.int z]) (show ((d + 1 : Nat) : Int) - 1 = (d : Int) by omega), rt.same sm, hQ⟩
          · refine ⟨_, ts.map (pl d), rfl, SqL.of hl2, ?_⟩
            rw [List.all_map]
            exact k _ sm
        · rw [decide_eq_false h6] at k ⊢
          exact iteYes rfl (k _ fun _ _ z => z)
      | non => exact iteNo rfl (qT _ _ _ _ H _ .non k)
      | bl b => exact iteNo rfl (qT _ _ _ _ H _ (.bl b) k)
      | int z => exact iteNo rfl (qT _ _ _ _ H _ (.int z) k)
      | str z hz => exact iteNo rfl (qT _ _ _ _ H _ (.str z hz) k)
      | lst h => exact iteNo rfl (qT _ _ _ _ H _ (.lst h) k)
      | dk h => exact iteNo rfl (qT _ _ _ _ H _ (.dk h) k)
      | ins h b => exact iteNo rfl (qT _ _ _ _ H _ (.ins h b) k)
def spPlain (K : PySem.W.Frag) : Sp := fun vs H Q _ => ∃ (v : V) (t : PT), vs = [v] ∧ RT K H v t ∧ ∀ H', Same H H' → Q (.bl t.plain) H'
theorem scPlain : FnScope ["thing"] ["thing"] (defScope sPlain) := ⟨rfl, rfl, rfl, by decide +kernel, rfl, by decide +kernel, by decide +kernel⟩
theorem ok_plain {f f1 : Addr} {fd fd1 : FuncData} (D : Df K mg "is_plain" "is_plain" sPlain ["thing"] f fd) (C : Cq mg) (D1 : Df K mg "_is_plain_within" "_is_plain_within" sWithin ["thing", "depth"] f1 fd1) (G1 : FnOk P w K mg base CX0 6 f1 fd1 ["thing", "depth"] (spWithin K 3)) :
    FnOk P w K mg base CX0 7 f fd ["thing"] (spPlain K) := by
  obtain ⟨t1, c1⟩ := C.depth
  refine D.F.ok scPlain (fun vs H Q E h => ?_) (fun cdv A outer s H vs Q E hr h => ?_)
  · obtain ⟨v, t, rfl, _⟩ := h
    rfl
  · obtain ⟨v, t, rfl, o, k⟩ := h
    refine ⟨_, pss_one (ps_ret (pe_call G1 hr rfl D1.g D1.F.kp D1.b .nil pass0 (pa_cons (pv 0) (pa_cons (pe_glob (v := .int 3) rfl c1 ⟨_, rfl⟩) pa_nil)))), ?_⟩
    exact ⟨_, rfl, _, _, rfl, o, k⟩
end
end K01
set_option Elab.async false
set_option linter.all false
set_option maxRecDepth 100000
set_option maxHeartbeats 2000000
namespace K01
open PySem L2 Xo
abbrev nI (n : Nat) : V := .int (n : Int)
section
variable {P : Program} {w : World} {K : PySem.W.Frag} {mg : Str → Option Value} {base : Heap}
theorem fmod32 {z : Int} {n : Nat} (h : z = (n : Int)) : z.fmod 4294967296 = ((n % 4294967296 : Nat) : Int) := by
  rw [h, Int.fmod_eq_emod_of_nonneg _ (by decide)]
  rfl
def spFolded : Sp := fun vs H Q _ => ∃ (start factor : Nat) (a : Addr) (ns : List Nat), vs = [nI start, nI factor, .ref a] ∧ H a = some (.lst (ns.map nI)) ∧ factor < 2 ^ 40 ∧ Q (nI (foldC start factor ns)) H
theorem scFolded : FnScope ["start", "factor", "numbers", "total", "number"] ["start", "factor", "numbers"] (defScope sFolded) := ⟨rfl, rfl, rfl, by decide +kernel, rfl, by decide +kernel, by decide +kernel⟩
theorem ok_folded {f : Addr} {fd : FuncData} (D : Df K mg "_folded" "_folded" sFolded ["start", "factor", "numbers"] f fd) (C : Ck mg) : FnOk P w K mg base CX0 1 f fd ["start", "factor", "numbers"] spFolded := by
  obtain ⟨t1, c1⟩ := C.codes
  refine D.F.ok scFolded (fun vs H Q E h => ?_) (fun cdv A outer s H vs Q E hr h => ?_)
  · obtain ⟨x, y, a, ns, rfl, _⟩ := h
    rfl
  · obtain ⟨start, factor, a, ns, rfl, ha, hf, k⟩ := h
    refine ⟨_, pss_cons (ps_set (i := 3) scFolded.nd rfl (Or.inl rfl) (pv 0))
      (pss_cons (ps_for PassesOwn.never rfl (pi_list (pv 2)) (pg_name (i := 4) scFolded.nd rfl (Or.inl rfl))
        (pss_one (ps_set (i := 3) scFolded.nd rfl (Or.inl rfl) (pe_op op_modN (pe_op op_add (pe_op op_mul (pv 1) (pv 3)) (pv 4)) (pe_glob (v := .int 4294967296) rfl c1 ⟨_, rfl⟩)))))
      (pss_one (ps_ret (pv 3)))), ?_⟩
    refine ⟨_, rfl, _, rfl, a, rfl, ⟨_, SqL.of ha⟩, for_list (K := K) (a := a) (xs := ns.map nI) (fun i σ H' => (∃ v4, σ = [some (nI start), some (nI factor), some (.ref a), some (nI (foldC start factor (ns.take i))), v4]) ∧ H' = H) ⟨⟨_, rfl⟩, rfl⟩ (fun i σ H' _ ⟨_, e⟩ => by subst e; exact SqL.of ha) ?_ ?_⟩
    · rintro i x σ H' hi ⟨⟨v4, rfl⟩, rfl⟩
      rw [List.getElem?_map] at hi
      obtain ⟨n, hn, rfl⟩ := Option.map_eq_some_iff.mp hi
      refine ⟨_, rfl, _, rfl, _, _, rfl, rfl, .inl ⟨by omega, by omega⟩, _, rfl, _, _, rfl, rfl, _, _, rfl, rfl, (by show (4294967296 : Int) ≠ 0; decide), ?_⟩
      refine ⟨⟨some (nI n), ?_⟩, rfl⟩
      have e : foldC start factor (ns.take (i + 1)) = (factor * foldC start factor (ns.take i) + n) % 4294967296 := by
        rw [List.take_succ, hn]
        unfold foldC
        rw [List.foldl_append]
        rfl
      rw [e]
      show [_, _, _, some (V.int (Int.fmod _ 4294967296)), some (nI n)] = _
      rw [fmod32 (n := factor * foldC start factor (ns.take i) + n) (by simp)]
    · rintro σ H' ⟨⟨v4, rfl⟩, rfl⟩
      rw [List.length_map, List.take_length]
      exact ⟨_, rfl, k⟩
def spCodeP (K : PySem.W.Frag) (d : Nat) : Sp := fun vs H Q _ => ∃ (v : V) (t : PT), vs = [v] ∧ RT K H v t ∧ pl d t = true ∧ ∀ H', Same H H' → Q (nI (cd d t)) H'
abbrev NCP : List Str := ["key", "codes", "sign", "item"]
theorem scCodeP : FnScope NCP ["key"] (defScope sCodeP) := ⟨rfl, rfl, rfl, by decide +kernel, rfl, by decide +kernel, by decide +kernel⟩
theorem cps_at {s : Str} {i : Nat} {r : V} (h : (s.cps.toList.map nI)[i]? = some r) {c : Nat} (hc : s.cps[i]? = some c) : r = nI c := by
  have hc2 : s.cps.toList[i]? = some c := by
    rw [Array.getElem?_toList]
    exact hc
  rw [List.getElem?_map, hc2] at h
  exact (Option.some.inj h).symm
theorem ok_codeP {f f1 : Addr} {fd fd1 : FuncData} (D : Df K mg "_code_of_plain" "_code_of_plain" sCodeP ["key"] f fd) (B : Bl mg) (B2 : Bk mg) (C : Ck mg) (C2 : Cq mg) (D1 : Df K mg "_folded" "_folded" sFolded ["start", "factor", "numbers"] f1 fd1) (G1 : FnOk P w K mg base CX0 1 f1 fd1 ["start", "factor", "numbers"] spFolded) :
    ∀ d : Nat, FnOk P w K mg base CX0 (2 + d) f fd ["key"] (spCodeP K d) := by
  obtain ⟨t1, c1⟩ := C.codes
  obtain ⟨t2, c2⟩ := C2.nonc
  obtain ⟨t3, c3⟩ := C2.ts
  obtain ⟨t4, c4⟩ := C2.tf
  obtain ⟨t5, c5⟩ := C2.us
  obtain ⟨t6, c6⟩ := C2.uf
  intro d
  induction d with
  | zero =>
    refine D.F.ok scCodeP (fun vs H Q E h => ?_) (fun cdv A outer s H vs Q E hr h => ?_)
    · obtain ⟨v, t, rfl, _⟩ := h
      rfl
    · obtain ⟨v, t, rfl, o, hp, k⟩ := h
      obtain ⟨tv, ty, _, _, e3, e4⟩ := rt_ty o
      refine ⟨_, pss_cons (ps_if (pt_cmp (pc_isN (pv 0))) (pss_one (ps_ret (pe_glob (v := .int 1297303124) rfl c2 ⟨_, rfl⟩))) pss_nil)
        (pss_cons (ps_if (pt_val (pe_callB call_isi (by rfl) B.isinstance (by decide +kernel) (pa_cons (pv 0) (pa_cons (pTy (t := "str") (by rfl) B2.str (by decide +kernel)) pa_nil))))
          (pss_one (ps_ret (pe_call G1 (hr.mono (by decide)) rfl D1.g D1.F.kp D1.b .nil pass0 (pa_cons (pe_glob (v := .int 17) rfl c3 ⟨_, rfl⟩) (pa_cons (pe_glob (v := .int 33) rfl c4 ⟨_, rfl⟩) (pa_cons (pe_lc (own := [("sign", 2)]) (g := gName 2) (tt := tYes) rfl scCodeP.nd (pi_str (pv 0)) (blkOk_by (own := [("sign", 2)]) (N := NCP) (sc := defScope sCodeP) (by decide +kernel)) (fun _ _ _ _ _ => pg_name (i := 2) scCodeP.nd rfl (Or.inl rfl)) (fun _ _ _ _ _ => pts_nil)
            (fun _ _ _ _ _ => pe_callB call_ord (by rfl) B2.ord (by decide +kernel) (pa_cons (pv 2) pa_nil))) pa_nil)))))) pss_nil)
        (pss_cons (ps_if (pt_val (pe_callB call_isi (by rfl) B.isinstance (by decide +kernel) (pa_cons (pv 0) (pa_cons (pTy (t := "tuple") (by rfl) B.tuple (by decide +kernel)) pa_nil)))) (pss_cons ps_never (pss_one ps_never)) pss_nil)
        (pss_one (ps_ret (pe_op op_modN (pv 0) (pe_glob (v := .int 4294967296) rfl c1 ⟨_, rfl⟩)))))), ?_⟩
      refine ⟨_, rfl, _, rfl, ?_⟩
      rw [rt_notup o]
      cases o with
      | non => exact iteYes rfl (k _ fun _ _ z => z)
      | bl b => cases hp
      | int z =>
        refine iteNo rfl ⟨_, rfl, _, _, _, _, _, rfl, .ty _, ty, e3, _, rfl, iteNo rfl ⟨_, rfl, _, _, _, _, _, rfl, .ty _, ty, e4, _, rfl, iteNo rfl ?_⟩⟩
        refine ⟨_, rfl, _, _, rfl, rfl, (by show (4294967296 : Int) ≠ 0; decide), ?_⟩
        have := k H fun _ _ z => z
        have e : nI (cd 0 (.int z)) = .int (z.fmod 4294967296) := by
          have h1 : 0 ≤ z.fmod 4294967296 := Int.fmod_nonneg_of_pos z (by decide)
          show V.int (((z.fmod 4294967296).toNat : Nat) : Int) = _
          rw [Int.toNat_of_nonneg h1]
        rw [e] at this
        exact this
      | str z hz =>
        refine iteNo rfl ⟨_, rfl, _, _, _, _, _, rfl, .ty _, ty, e3, _, rfl, iteYes rfl ⟨_, rfl, z, rfl, fun Dl hD => ?_⟩⟩
        refine Cm.lc_map (walk_str (z := z)) (z.cps.toList.map nI) (by rw [List.length_map, Array.length_toList]) (Nat.le_trans hz (by decide)) hD (fun _ _ => trivial) (fun i r x H2 H3 Qk N hr2 sm hy hQ => ?_) (fun H2 sm hl => ?_)
        · obtain ⟨rfl, c, hc, rfl⟩ := hy
          have hr3 := cps_at hr2 hc
          subst hr3
          refine ⟨rfl, ?_⟩
          exact ⟨_, rfl, _, rfl, rfl, hQ _ fun _ _ z => z⟩
        · exact ⟨17, 33, Dl, z.cps.toList, rfl, hl, by decide, k _ sm⟩
      | tup h r hl => cases hp
      | lst h => cases hp
      | dk h => cases hp
      | ins h b => cases hp
  | succ d ih =>
    refine D.F.ok scCodeP (fun vs H Q E h => ?_) (fun cdv A outer s H vs Q E hr h => ?_)
    · obtain ⟨v, t, rfl, _⟩ := h
      rfl
    · obtain ⟨v, t, rfl, o, hp, k⟩ := h
      obtain ⟨tv, ty, _, _, e3, e4⟩ := rt_ty o
      refine ⟨_, pss_cons (ps_if (pt_cmp (pc_isN (pv 0))) (pss_one (ps_ret (pe_glob (v := .int 1297303124) rfl c2 ⟨_, rfl⟩))) pss_nil)
        (pss_cons (ps_if (pt_val (pe_callB call_isi (by rfl) B.isinstance (by decide +kernel) (pa_cons (pv 0) (pa_cons (pTy (t := "str") (by rfl) B2.str (by decide +kernel)) pa_nil))))
          (pss_one (ps_ret (pe_call G1 (hr.mono (show 1 ≤ 2 + d by omega)) rfl D1.g D1.F.kp D1.b .nil pass0 (pa_cons (pe_glob (v := .int 17) rfl c3 ⟨_, rfl⟩) (pa_cons (pe_glob (v := .int 33) rfl c4 ⟨_, rfl⟩) (pa_cons (pe_lc (own := [("sign", 2)]) (g := gName 2) (tt := tYes) rfl scCodeP.nd (pi_str (pv 0)) (blkOk_by (own := [("sign", 2)]) (N := NCP) (sc := defScope sCodeP) (by decide +kernel)) (fun _ _ _ _ _ => pg_name (i := 2) scCodeP.nd rfl (Or.inl rfl)) (fun _ _ _ _ _ => pts_nil)
            (fun _ _ _ _ _ => pe_callB call_ord (by rfl) B2.ord (by decide +kernel) (pa_cons (pv 2) pa_nil))) pa_nil)))))) pss_nil)
        (pss_cons (ps_if (pt_val (pe_callB call_isi (by rfl) B.isinstance (by decide +kernel) (pa_cons (pv 0) (pa_cons (pTy (t := "tuple") (by rfl) B.tuple (by decide +kernel)) pa_nil))))
          (pss_cons (ps_setLc (i := 1) (own := [("item", 3)]) (g := gName 3) (tt := tYes) rfl scCodeP.nd rfl rfl (sw_true rfl rfl rfl (by decide +kernel)) (pi_tup (pv 0)) (blkOk_by (own := [("item", 3)]) (N := NCP) (sc := defScope sCodeP) (by decide +kernel)) (fun _ _ _ _ _ => pg_name (i := 3) scCodeP.nd rfl (Or.inl rfl)) (fun _ _ _ _ _ => pts_nil)
            (fun _ _ _ _ _ => pe_call ih hr rfl D.g D.F.kp D.b .nil pass0 (pa_cons (pv 3) pa_nil)))
          (pss_one (ps_ret (pe_op op_modN (pe_op op_add (pe_call G1 (hr.mono (show 1 ≤ 2 + d by omega)) rfl D1.g D1.F.kp D1.b .nil pass0 (pa_cons (pe_glob (v := .int 41) rfl c5 ⟨_, rfl⟩) (pa_cons (pe_glob (v := .int 1000003) rfl c6 ⟨_, rfl⟩) (pa_cons (pv 1) pa_nil)))) (pe_callB call_len_seq (by rfl) B.len PySem.boot_len (pa_cons (pv 0) pa_nil))) (pe_glob (v := .int 4294967296) rfl c1 ⟨_, rfl⟩))))) pss_nil)
        (pss_one (ps_ret (pe_op op_modN (pv 0) (pe_glob (v := .int 4294967296) rfl c1 ⟨_, rfl⟩)))))), ?_⟩
      refine ⟨_, rfl, _, rfl, ?_⟩
      rw [rt_notup o]
      cases o with
      | non => exact iteYes rfl (k _ fun _ _ z => z)
      | bl b => cases hp
      | int z =>
        refine iteNo rfl ⟨_, rfl, _, _, _, _, _, rfl, .ty _, ty, e3, _, rfl, iteNo rfl ⟨_, rfl, _, _, _, _, _, rfl, .ty _, ty, e4, _, rfl, iteNo rfl ?_⟩⟩
        refine ⟨_, rfl, _, _, rfl, rfl, (by show (4294967296 : Int) ≠ 0; decide), ?_⟩
        have := k H fun _ _ z => z
        have e : nI (cd (d + 1) (.int z)) = .int (z.fmod 4294967296) := by
          have h1 : 0 ≤ z.fmod 4294967296 := Int.fmod_nonneg_of_pos z (by decide)
          show V.int (((z.fmod 4294967296).toNat : Nat) : Int) = _
          rw [Int.toNat_of_nonneg h1]
        rw [e] at this
        exact this
      | str z hz =>
        refine iteNo rfl ⟨_, rfl, _, _, _, _, _, rfl, .ty _, ty, e3, _, rfl, iteYes rfl ⟨_, rfl, z, rfl, fun Dl hD => ?_⟩⟩
        refine Cm.lc_map (walk_str (z := z)) (z.cps.toList.map nI) (by rw [List.length_map, Array.length_toList]) (Nat.le_trans hz (by decide)) hD (fun _ _ => trivial) (fun i r x H2 H3 Qk N hr2 sm hy hQ => ?_) (fun H2 sm hl => ?_)
        · obtain ⟨rfl, c, hc, rfl⟩ := hy
          have hr3 := cps_at hr2 hc
          subst hr3
          refine ⟨rfl, ?_⟩
          exact ⟨_, rfl, _, rfl, rfl, hQ _ fun _ _ z => z⟩
        · exact ⟨17, 33, Dl, z.cps.toList, rfl, hl, by decide, k _ sm⟩
      | @tup a vs ts h r hl =>
        have hp : (decide (ts.length ≤ 6) && ts.all (pl d)) = true := hp
        rw [Bool.and_eq_true] at hp
        have hall := List.all_eq_true.mp hp.2
        refine iteNo rfl ⟨_, rfl, _, _, _, _, _, rfl, .ty _, ty, e3, _, rfl, iteNo rfl ⟨_, rfl, _, _, _, _, _, rfl, .ty _, ty, e4, _, rfl, iteYes rfl ⟨_, rfl, a, rfl, ⟨_, SqT.of h⟩, fun Dl hD => ?_⟩⟩⟩
        refine Cm.lc_map (walk_tup (K := K) (a := a) (xs := vs)) ((ts.map (cd d)).map nI) (by rw [List.length_map, List.length_map, r.length]) (Nat.le_trans hl (by decide)) hD (fun _ sm => SqT.of (sm _ _ h)) (fun i x y H2 H3 Qk N hr2 sm hy hQ => ?_) (fun H2 sm hl2 => ?_)
        · obtain ⟨rfl, hx⟩ := hy
          obtain ⟨t, ht, rt⟩ := r.get hx
          have hr3 : x = nI (cd d t) := by
            rw [List.map_map, List.getElem?_map, ht] at hr2
            exact (Option.some.inj hr2).symm
          subst hr3
          refine ⟨rfl, ?_⟩
          exact ⟨_, rfl, y, t, rfl, rt.same sm, hall t (List.mem_of_getElem? ht), hQ⟩
        · refine ⟨_, rfl, 41, 1000003, Dl, ts.map (cd d), rfl, hl2, by decide, _, rfl, a, _, rfl, .inr (SqT.of (sm _ _ h)), _, _, rfl, rfl, _, _, rfl, rfl, (by show (4294967296 : Int) ≠ 0; decide), ?_⟩
          have := k H2 sm
          have e : nI (cd (d + 1) (.tup ts)) = .int (Int.fmod (((foldC 41 1000003 (ts.map (cd d)) : Nat) : Int) + (vs.length : Nat)) 4294967296) := by
            rw [fmod32 (n := foldC 41 1000003 (ts.map (cd d)) + ts.length) (by rw [r.length]; simp)]
            rfl
          rw [e] at this
          exact this
      | lst h => cases hp
      | dk h => cases hp
      | ins h b => cases hp
def spCodeOf (K : PySem.W.Frag) (C : Addr) : Sp := fun vs H Q E => ∃ (v : V) (t : PT), vs = [v] ∧ RT K H v t ∧ (t.plain = true → ∀ H', Same H H' → Q (nI t.code) H') ∧ (t.plain = false → ∀ H', Same H H' → OutE C "reason" H' E)
theorem scCodeOf : FnScope ["key"] ["key"] (defScope sCodeOf) := ⟨rfl, rfl, rfl, by decide +kernel, rfl, by decide +kernel, by decide +kernel⟩
theorem ok_codeOf {f f1 f2 C : Addr} {fd fd1 fd2 : FuncData} (D : Df K mg "code_of" "code_of" sCodeOf ["key"] f fd) (D1 : Df K mg "is_plain" "is_plain" sPlain ["thing"] f1 fd1) (G1 : FnOk P w K mg base CX0 7 f1 fd1 ["thing"] (spPlain K))
    (D2 : Df K mg "_code_of_plain" "_code_of_plain" sCodeP ["key"] f2 fd2) (G2 : FnOk P w K mg base CX0 5 f2 fd2 ["key"] (spCodeP K 3)) (x : XK P w K mg base "BadKey" C "reason") : FnOk P w K mg base (L2.CX P w) 8 f fd ["key"] (spCodeOf K C) := by
  refine D.F.okX scCodeOf (fun vs H Q E h => ?_) (fun cdv A outer s H vs Q E hr h => ?_)
  · obtain ⟨n, t, rfl, _⟩ := h
    rfl
  · obtain ⟨v, t, rfl, o, k1, k2⟩ := h
    refine ⟨_, pss_cons (ps_if (pt_not (pt_val (pe_call G1 hr rfl D1.g D1.F.kp D1.b .nil pass0 (pa_cons (pv 0) pa_nil)))) (pss_one (ps_raise rfl (takes_of rfl rfl rfl rfl) (pmk_x (XK.to x) (hr.mono (by decide)) rfl x.g (pa_cons pe_str pa_nil)))) pss_nil)
      (pss_one (ps_ret (pe_call G2 (hr.mono (by decide)) rfl D2.g D2.F.kp D2.b .nil pass0 (pa_cons (pv 0) pa_nil)))), ?_⟩
    refine ⟨_, rfl, _, _, rfl, o, fun H' sm => ⟨_, rfl, ?_⟩⟩
    cases hc : t.plain with
    | false => exact iteYes rfl ⟨_, rfl, fun d hd => k2 hc H' sm d _ hd⟩
    | true => exact iteNo rfl ⟨_, rfl, _, _, rfl, o.same sm, hc, fun H2 s2 => k1 hc H2 fun b o e => s2 _ _ (sm _ _ e)⟩
end
end K01
set_option Elab.async false
set_option linter.all false
set_option maxRecDepth 100000
set_option maxHeartbeats 2000000
namespace K01
open PySem L2 Xo
abbrev sLText : Stmt := top 37
abbrev sLValue : Stmt := top 38
theorem Src.mono {H : Hp} {s : Addr} {n m : Nat} (h : Src H s n) (hm : n ≤ m) : Src H s m := by
  obtain ⟨l, c, t, h1, h2, h3, h4⟩ := h
  exact ⟨l, c, t, h1, h2, h3, by omega⟩
theorem RT.kept {K : PySem.W.Frag} {H H' : Hp} {s : Addr} {n : Nat} (hs0 : ∃ kvs, H s = some (.dK kvs)) (hs : Src H' s n) (kp : KeptS H H' s) {v : V} {t : PT} (h : RT K H v t) : RT K H' v t := by
  obtain ⟨kvs, e0⟩ := hs0
  obtain ⟨l, c, t0, e1, _⟩ := hs
  refine RT.rec (motive_1 := fun v t _ => RT K H' v t) (motive_2 := fun vs ts _ => RTs K H' vs ts) .non .bl .int .str (fun h r hl ih => ?_) (fun {a vs} h => ?_) (fun {a kvs} h => ?_) (fun {a C dx fs} h b => ?_) .nil (fun h r ih1 ih2 => .cons ih1 ih2) h
  · exact .tup (kp _ _ h (ne_of h e0 (by intro z; cases z))) ih hl
  · exact .lst (kp _ _ h (ne_of h e0 (by intro z; cases z)))
  · by_cases z : a = s
    · subst z
      exact .dk e1
    · exact .dk (kp _ _ h z)
  · exact .ins (kp _ _ h (ne_of h e0 (by intro z; cases z))) b
theorem RTs.kept {K : PySem.W.Frag} {H H' : Hp} {s : Addr} {n : Nat} (hs0 : ∃ kvs, H s = some (.dK kvs)) (hs : Src H' s n) (kp : KeptS H H' s) : ∀ {vs : List V} {ts : List PT}, RTs K H vs ts → RTs K H' vs ts
  | _, _, .nil => .nil
  | _, _, .cons h r => .cons (h.kept hs0 hs kp) (r.kept hs0 hs kp)
theorem Src.at {H : Hp} {s : Addr} {n : Nat} (h : Src H s n) : ∃ kvs, H s = some (.dK kvs) := by
  obtain ⟨l, c, t, e, _⟩ := h
  exact ⟨_, e⟩
theorem one_len (c : Nat) : (⟨#[c]⟩ : Str).length = 1 := rfl
section
variable {P : Program} {w : World} {K : PySem.W.Frag} {mg : Str → Option Value} {base : Heap}
def spLText : Sp := fun vs H Q _ => ∃ (s : Addr) (n : Nat), vs = [.ref s] ∧ Src H s n ∧ n + 400 < 2 ^ 40 ∧ ∀ (z : Str) H', z.length ≤ 100 → Src H' s (n + 400) → KeptS H H' s → Q (.str z) H'
abbrev NLT : List Str := ["state", "size", "found", "signs", "j", "at"]
theorem scLText : FnScope NLT ["state"] (defScope sLText) := ⟨rfl, rfl, rfl, by decide +kernel, rfl, by decide +kernel, by decide +kernel⟩
theorem pick8 (n : Nat) (h : n < 8) : ∃ m : Nat, m ≤ 42 ∧ ([V.int 0, .int 1, .int 2, .int 3, .int 39, .int 40, .int 41, .int 42] : List V)[n]? = some (V.int (m : Int)) := by
  match n, h with
  | 0, _ => exact ⟨0, by decide, rfl⟩
  | 1, _ => exact ⟨1, by decide, rfl⟩
  | 2, _ => exact ⟨2, by decide, rfl⟩
  | 3, _ => exact ⟨3, by decide, rfl⟩
  | 4, _ => exact ⟨39, by decide, rfl⟩
  | 5, _ => exact ⟨40, by decide, rfl⟩
  | 6, _ => exact ⟨41, by decide, rfl⟩
  | 7, _ => exact ⟨42, by decide, rfl⟩
theorem pick4s (n : Nat) (h : n < 4) : ∃ x : Str, x.length = 1 ∧ ([V.str "\n", .str "&", .str "\t", .str "!"] : List V)[n]? = some (V.str x) := by
  match n, h with
  | 0, _ => exact ⟨_, by decide +kernel, rfl⟩
  | 1, _ => exact ⟨_, by decide +kernel, rfl⟩
  | 2, _ => exact ⟨_, by decide +kernel, rfl⟩
  | 3, _ => exact ⟨_, by decide +kernel, rfl⟩
abbrev sgn : Str := " ~abz09_$&-"
theorem sgn_at (n : Nat) (h : n < 11) : ∃ c, atI sgn.cps.toList (n : Int) = some c := by
  have hl : sgn.cps.toList.length = 11 := by decide +kernel
  refine ⟨sgn.cps.toList[n]'(by omega), atI_nat (List.getElem?_eq_getElem (by omega))⟩
theorem ok_ltext {f f1 : Addr} {fd fd1 : FuncData} (D : Df K mg "_law_text" "_law_text" sLText ["state"] f fd) (B : Bl mg) (D1 : Df K mg "_law_digit" "_law_digit" sDigit ["state", "size"] f1 fd1) (G1 : FnOk P w K mg base CX0 2 f1 fd1 ["state", "size"] spDigit) :
    FnOk P w K mg base CX0 3 f fd ["state"] spLText := by
  refine D.F.ok scLText (fun vs H Q E h => ?_) (fun cdv A outer s H vs Q E hr h => ?_)
  · obtain ⟨s, n, rfl, _⟩ := h
    rfl
  · obtain ⟨s, n, rfl, hs, hn, k⟩ := h
    refine ⟨_, pss_cons (ps_set (i := 1) scLText.nd rfl (Or.inl rfl) (pe_ix ix_list (pe_lst (pa_cons pe_int (pa_cons pe_int (pa_cons pe_int (pa_cons pe_int (pa_cons pe_int (pa_cons pe_int (pa_cons pe_int (pa_cons pe_int pa_nil))))))))) (pe_call G1 hr rfl D1.g D1.F.kp D1.b .nil pass0 (pa_cons (pv 0) (pa_cons pe_int pa_nil))) (fun _ _ => rfl)))
      (pss_cons (ps_asg (pe_tup (pa_cons pe_str (pa_cons pe_str pa_nil))) (pg_tup rfl (pgs_cons (pg_name (i := 2) scLText.nd rfl (Or.inl rfl)) (pgs_cons (pg_name (i := 3) scLText.nd rfl (Or.inl rfl)) pgs_nil))))
      (pss_cons (ps_for PassesOwn.never rfl (pi_range1 rfl B.range (pa_cons (pv 1) pa_nil)) (pg_name (i := 4) scLText.nd rfl (Or.inl rfl))
        (pss_one (ps_set (i := 2) scLText.nd rfl (Or.inl rfl) (pe_op op_add_str (pv 2) (pe_ix ix_str (pv 3) (pe_call G1 hr rfl D1.g D1.F.kp D1.b .nil pass0 (pa_cons (pv 0) (pa_cons pe_int pa_nil))) (fun _ _ => rfl))))))
      (pss_cons (ps_if (PW.pt (pw_and (pt_cmpR op_gt (pv 1) pe_int (nomark _)) (pw_and1 (pt_cmpR op_eq (pe_call G1 hr rfl D1.g D1.F.kp D1.b .nil pass0 (pa_cons (pv 0) (pa_cons pe_int pa_nil))) pe_int (nomark _)))))
        (pss_cons (ps_set (i := 5) scLText.nd rfl (Or.inl rfl) (pe_call G1 hr rfl D1.g D1.F.kp D1.b .nil pass0 (pa_cons (pv 0) (pa_cons (pv 1) pa_nil))))
        (pss_one (ps_set (i := 2) scLText.nd rfl (Or.inl rfl) (pe_op op_add_str (pe_op op_add_str (pe_slice sl_str (pv 2) po_none (po_some (pv 5))) (pe_ix ix_list (pe_lst (pa_cons pe_str (pa_cons pe_str (pa_cons pe_str (pa_cons pe_str pa_nil))))) (pe_call G1 hr rfl D1.g D1.F.kp D1.b .nil pass0 (pa_cons (pv 0) (pa_cons pe_int pa_nil))) (fun _ _ => rfl))) (pe_slice sl_str (pv 2) (po_some (pe_op op_add (pv 5) pe_int)) po_none))))) pss_nil)
      (pss_one (ps_ret (pv 2)))))), ?_⟩
    refine ⟨by show 8 ≤ sizeLine; decide, fun L hL => ?_⟩
    have y0 := same_new (o := .lst [.int 0, .int 1, .int 2, .int 3, .int 39, .int 40, .int 41, .int 42]) hL
    have eL : upd H L (.lst [.int 0, .int 1, .int 2, .int 3, .int 39, .int 40, .int 41, .int 42]) L = some (.lst [V.int 0, .int 1, .int 2, .int 3, .int 39, .int 40, .int 41, .int 42]) := upd_same
    have nL : L ≠ s := by
      obtain ⟨kvs, e⟩ := hs.at
      exact (ne_of_none e hL).symm
    have hs0 := hs.same y0
    change tCall _ _ _ _ _ (upd H L _) _
    generalize upd H L (.lst [.int 0, .int 1, .int 2, .int 3, .int 39, .int 40, .int 41, .int 42]) = H0 at y0 eL hs0 ⊢
    refine ⟨_, rfl, s, 8, n, rfl, hs0, by omega, by decide, by decide, fun m H1 hm s1 kp1 => ?_⟩
    obtain ⟨sz, hsz, esz⟩ := pick8 m hm
    refine ⟨L, _, (m : Int), _, rfl, rfl, SqL.of (kp1 L _ eL nL), atI_nat esz, ?_⟩
    have kq1 := (KeptS.of (s := s) y0).trans kp1
    refine ⟨by show 2 ≤ sizeLine; decide, fun T hT => ⟨T, _, rfl, SqT.of upd_same, rfl, _, _, rfl, _, _, rfl, rfl, ?_⟩⟩
    have y2 := same_new (o := .tup [.str "", .str sgn]) hT
    have s2 := s1.same y2
    have kq2 := kq1.trans (KeptS.of (s := s) y2)
    show tSeq _ _ _ _ (upd H1 T (.tup [.str "", .str sgn]))
    generalize upd H1 T (.tup [.str "", .str sgn]) = H2 at s2 kq2 ⊢
    refine ⟨_, rfl, _, rfl, by omega, by omega, for_range (fun i σ H' => (∃ (z : Str) (v4 v5 : Option V), σ = [some (.ref s), some (.int (sz : Int)), some (.str z), some (.str sgn), v4, v5] ∧ z.length = i) ∧ Src H' s (n + 4 + 4 * i) ∧ KeptS H H' s) ⟨⟨_, _, _, rfl, rfl⟩, s2, kq2⟩ ?_ ?_⟩
    · rintro i σ' H3 hi ⟨⟨z, v4, v5, rfl, hz⟩, s3, k3⟩
      have hi : i < sz := by omega
      refine ⟨_, rfl, _, rfl, _, rfl, s, 11, n + 4 + 4 * i, rfl, s3, by omega, by decide, by decide, fun c H4 hc s4 kp4 => ?_⟩
      obtain ⟨x, hx⟩ := sgn_at c hc
      refine ⟨_, (c : Int), x, rfl, rfl, by decide +kernel, hx, ?_⟩
      refine ⟨_, _, rfl, rfl, by rw [hz]; exact Nat.le_trans (show i + 1 ≤ 100 by omega) (by decide), ?_⟩
      exact ⟨⟨_, _, _, rfl, by rw [PySem.Str.length_append, hz]; rfl⟩, s4, k3.trans kp4⟩
    · rintro σ' H3 ⟨⟨z, v4, v5, rfl, hz⟩, s3, k3⟩
      have hz : z.length = sz := by rw [hz]; omega
      have fin : ∀ (z' : Str) H' (m : Nat), z'.length ≤ 100 → m ≤ n + 400 → Src H' s m → KeptS H H' s → Q (.str z') H' := fun z' H' m a b c d => k z' H' a (c.mono b) d
      have s3 : Src H3 s (n + 200) := s3.mono (by omega)
      refine ⟨_, rfl, _, _, rfl, rfl, _, rfl, ?_⟩
      refine ite2 (fun e => ?_) (fun e => ?_)
      · have h0 : 0 < sz := by
          have := of_decide_eq_true e
          omega
        refine ⟨_, rfl, s, 4, n + 200, rfl, s3, by omega, by decide, by decide, fun c H4 hc s4 kp4 => ⟨rfl, _, rfl, ite2 (fun e => ?_) (fun e => ?_)⟩⟩
        · refine ⟨_, rfl, _, rfl, s, sz, n + 200 + 4, rfl, s4, by omega, h0, by omega, fun a H5 ha s5 kp5 => ?_⟩
          refine ⟨_, rfl, _, rfl, ?_⟩
          refine ⟨_, rfl, _, rfl, Nat.le_trans (show z.length ≤ 100 by omega) (by decide), ?_⟩
          refine ⟨by show 4 ≤ sizeLine; decide, fun L2 hL2 => ?_⟩
          have y6 := same_new (o := .lst [.str "\n", .str "&", .str "\t", .str "!"]) hL2
          have eL2 : upd H5 L2 (.lst [.str "\n", .str "&", .str "\t", .str "!"]) L2 = some (.lst [V.str "\n", .str "&", .str "\t", .str "!"]) := upd_same
          have nL2 : L2 ≠ s := by
            obtain ⟨kvs, e⟩ := s5.at
            exact (ne_of_none e hL2).symm
          have s6 := s5.same y6
          refine ⟨_, rfl, s, 4, n + 200 + 4 + 4, rfl, s6, by omega, by decide, by decide, fun c2 H6 hc2 s7 kp7 => ?_⟩
          obtain ⟨x, hx, ex⟩ := pick4s c2 hc2
          refine ⟨L2, _, (c2 : Int), _, rfl, rfl, SqL.of (kp7 L2 _ eL2 nL2), atI_nat ex, ?_⟩
          have l1 := cutS_length z none (some (a : Int))
          refine ⟨_, _, rfl, rfl, Nat.le_trans (show (cutS z none (some (a : Int))).length + x.length ≤ 200 by omega) (by decide), ?_⟩
          refine ⟨_, rfl, _, rfl, _, _, rfl, rfl, ?_⟩
          refine ⟨_, rfl, _, rfl, Nat.le_trans (show z.length ≤ 100 by omega) (by decide), ?_⟩
          have l2 := cutS_length z (some ((a : Int) + 1)) none
          have l3 : (cutS z none (some (a : Int)) ++ x).length ≤ 50 := by
            rw [PySem.Str.length_append]
            have l4 := cutS_length z none (some (a : Int))
            omega
          refine ⟨_, _, rfl, rfl, Nat.le_trans (show (cutS z none (some (a : Int)) ++ x).length + (cutS z (some ((a : Int) + 1)) none).length ≤ 200 by omega) (by decide), ?_⟩
          exact ⟨_, rfl, fin _ _ _ (by rw [PySem.Str.length_append]; omega) (show n + 200 + 4 + 4 + 4 ≤ n + 400 by omega) s7 (((k3.trans kp4).trans kp5).trans ((KeptS.of y6).trans kp7))⟩
        · exact ⟨_, rfl, fin z _ _ (by omega) (show n + 200 + 4 ≤ n + 400 by omega) s4 (k3.trans kp4)⟩
      · exact ⟨_, rfl, fin z _ _ (by omega) (show n + 200 ≤ n + 400 by omega) s3 k3⟩
/-- how far the digits may run -/
def vN : Nat → Nat
  | 0 => 1000
  | d + 1 => 1000 + 7 * vN d
theorem vN_pos (d : Nat) : 1000 ≤ vN d := by
  cases d with
  | zero => exact Nat.le_refl _
  | succ d =>
    unfold vN
    omega
def spLValue (K : PySem.W.Frag) (d : Nat) : Sp := fun vs H Q _ => ∃ (s : Addr) (n : Nat), vs = [.ref s, .int (d : Int)] ∧ Src H s n ∧ n + vN d < 2 ^ 40 ∧ ∀ (v : V) (t : PT) H', RT K H' v t → Src H' s (n + vN d) → KeptS H H' s → Q v H'
abbrev NLV : List Str := ["state", "depth", "way", "many", "j"]
theorem scLValue : FnScope NLV ["state", "depth"] (defScope sLValue) := ⟨rfl, rfl, rfl, by decide +kernel, rfl, by decide +kernel, by decide +kernel⟩
theorem pickI (n : Nat) (h : n < 8) : ∃ z : Int, ([V.int 0, .int 1, .int (-1), .int 4294967295, .int 4294967296, .int (-4294967297), .int ((10 : Int) ^ (40 : Int).toNat), .int 5] : List V)[n]? = some (V.int z) := by
  match n, h with
  | 0, _ => exact ⟨_, rfl⟩
  | 1, _ => exact ⟨_, rfl⟩
  | 2, _ => exact ⟨_, rfl⟩
  | 3, _ => exact ⟨_, rfl⟩
  | 4, _ => exact ⟨_, rfl⟩
  | 5, _ => exact ⟨_, rfl⟩
  | 6, _ => exact ⟨_, rfl⟩
  | 7, _ => exact ⟨_, rfl⟩
theorem pickV {H : Hp} {l1 t1 d1 l2 : Addr} (e1 : H l1 = some (.lst [])) (e2 : H t1 = some (.tup [])) (e3 : H d1 = some (.dK [])) (e4 : H l2 = some (.lst [.int 1])) (n : Nat) (h : n < 8) : ∃ (v : V) (t : PT), ([V.non, .bl true, .bl false, .ref l1, .ref t1, .ref d1, .str "", .ref l2] : List V)[n]? = some v ∧ RT K H v t := by
  match n, h with
  | 0, _ => exact ⟨_, _, rfl, .non⟩
  | 1, _ => exact ⟨_, _, rfl, .bl _⟩
  | 2, _ => exact ⟨_, _, rfl, .bl _⟩
  | 3, _ => exact ⟨_, _, rfl, .lst e1⟩
  | 4, _ => exact ⟨_, _, rfl, .tup e2 .nil (by decide)⟩
  | 5, _ => exact ⟨_, _, rfl, .dk e3⟩
  | 6, _ => exact ⟨_, _, rfl, .str _ (by decide +kernel)⟩
  | 7, _ => exact ⟨_, _, rfl, .lst e4⟩
theorem pick6 (n : Nat) (h : n < 6) : ∃ m : Nat, m ≤ 7 ∧ ([V.int 0, .int 1, .int 2, .int 3, .int 6, .int 7] : List V)[n]? = some (V.int (m : Int)) := by
  match n, h with
  | 0, _ => exact ⟨0, by decide, rfl⟩
  | 1, _ => exact ⟨1, by decide, rfl⟩
  | 2, _ => exact ⟨2, by decide, rfl⟩
  | 3, _ => exact ⟨3, by decide, rfl⟩
  | 4, _ => exact ⟨6, by decide, rfl⟩
  | 5, _ => exact ⟨7, by decide, rfl⟩
end
end K01
set_option Elab.async false
set_option linter.all false
set_option maxRecDepth 100000
set_option maxHeartbeats 4000000
namespace K01
open PySem L2 Xo
section
variable {P : Program} {w : World} {K : PySem.W.Frag} {mg : Str → Option Value} {base : Heap}
theorem RT.updL {H : Hp} {a : Addr} {xs ys : List V} (ha : H a = some (.lst xs)) {v : V} {t : PT} (h : RT K H v t) : RT K (upd H a (.lst ys)) v t := by
  refine RT.rec (motive_1 := fun v t _ => RT K (upd H a (.lst ys)) v t) (motive_2 := fun vs ts _ => RTs K (upd H a (.lst ys)) vs ts) .non .bl .int .str (fun h r hl ih => ?_) (fun {b vs} h => ?_) (fun {b kvs} h => ?_) (fun {b C dx fs} h i => ?_) .nil (fun h r ih1 ih2 => .cons ih1 ih2) h
  · exact .tup (by rw [upd_ne (ne_of h ha (by intro z; cases z))]; exact h) ih hl
  · by_cases z : b = a
    · subst z
      exact .lst upd_same
    · exact .lst (by rw [upd_ne z]; exact h)
  · exact .dk (by rw [upd_ne (ne_of h ha (by intro z; cases z))]; exact h)
  · exact .ins (by rw [upd_ne (ne_of h ha (by intro z; cases z))]; exact h) i
theorem RTs.updL {H : Hp} {a : Addr} {xs ys : List V} (ha : H a = some (.lst xs)) : ∀ {vs : List V} {ts : List PT}, RTs K H vs ts → RTs K (upd H a (.lst ys)) vs ts
  | _, _, .nil => .nil
  | _, _, .cons h r => .cons (h.updL ha) (r.updL ha)
theorem Src.updL {H : Hp} {s a : Addr} {n : Nat} {xs ys : List V} (ha : H a = some (.lst xs)) (h : Src H s n) : Src (upd H a (.lst ys)) s n := by
  obtain ⟨l, c, t, e, r⟩ := h
  exact ⟨l, c, t, by rw [upd_ne (ne_of e ha (by intro z; cases z))]; exact e, r⟩
def vP : Nat → Nat
  | 0 => 0
  | d + 1 => vN d
theorem vN_eq (d : Nat) : vN d = 1000 + 7 * vP d := by cases d <;> rfl
def spPrev (K : PySem.W.Frag) : Nat → Sp
  | 0 => fun _ _ _ _ => False
  | d + 1 => spLValue K d
theorem lvalue_step {f f1 f2 : Addr} {fd fd1 fd2 : FuncData} {d : Nat} (hd4 : d ≤ 4) (D : Df K mg "_law_value" "_law_value" sLValue ["state", "depth"] f fd) (B : Bl mg) (D1 : Df K mg "_law_digit" "_law_digit" sDigit ["state", "size"] f1 fd1) (G1 : FnOk P w K mg base CX0 2 f1 fd1 ["state", "size"] spDigit)
    (D2 : Df K mg "_law_text" "_law_text" sLText ["state"] f2 fd2) (G2 : FnOk P w K mg base CX0 3 f2 fd2 ["state"] spLText) (G : FnOk P w K mg base CX0 (3 + d) f fd ["state", "depth"] (spPrev K d)) : FnOk P w K mg base CX0 (3 + d + 1) f fd ["state", "depth"] (spLValue K d) := by
  refine D.F.ok scLValue (fun vs H Q E h => ?_) (fun cdv A outer sh H vs Q E hr h => ?_)
  · obtain ⟨s, n, rfl, _⟩ := h
    rfl
  · obtain ⟨s, n, rfl, hs, hn, k⟩ := h
    have hv := vN_pos d
    have hr2 := hr.mono (show 2 ≤ 3 + d by omega)
    have hr3 := hr.mono (show 3 ≤ 3 + d by omega)
    have tail : ∃ t, PSs (cxOf CX0 P w K mg base NLV "_law_value" (defScope sLValue) f cdv A outer sh H E).nox ((defBody sLValue).drop 5) t ∧ ∀ (mm : Nat) v2 v4 H2, mm ≤ 7 → (0 < mm → 0 < d) → Src H2 s (n + 8) → KeptS H H2 s →
        t { nx := fun _ H' => Q .non H', rt := Q } [some (.ref s), some (.int (d : Int)), v2, some (.int (mm : Int)), v4] H2 := by
      refine ⟨_, (pss_one (ps_ret (pe_callTy call_tuple_of (by rfl) B.tuple (by decide +kernel) (pa_cons (pe_lc (own := [("j", 4)]) (g := gName 4) (tt := tYes) rfl scLValue.nd (pi_range1 rfl B.range (pa_cons (pv 3) pa_nil)) (blkOk_by (own := [("j", 4)]) (N := NLV) (sc := defScope sLValue) (by decide +kernel)) (fun _ _ _ _ _ => pg_name (i := 4) scLValue.nd rfl (Or.inl rfl)) (fun _ _ _ _ _ => pts_nil)
        (fun _ _ _ _ _ => pe_call G hr rfl D.g D.F.kp D.b .nil pass0 (pa_cons (pv 0) (pa_cons (pe_op op_sub (pv 1) pe_int) pa_nil)))) pa_nil)))), fun mm v2 v4 H2 h7 h0 s2 k2 => ?_⟩
      refine ⟨_, rfl, _, rfl, by omega, by omega, fun Dl hD => ?_⟩
      obtain ⟨kvs, e1⟩ := s2.at
      have nD : Dl ≠ s := (ne_of_none e1 hD).symm
      have vstep : ∀ i, i < mm → ∃ d', d = d' + 1 := fun i hi => ⟨d - 1, by have := h0 (by omega); omega⟩
      refine lc_range (lo := 0) (fun i H' => ∃ (us : List V) (ts : List PT), us.length = i ∧ H' Dl = some (.lst us) ∧ RTs K H' us ts ∧ Src H' s (n + 8 + i * vP d) ∧ KeptS H H' s) ?_ ?_ ?_
      · have y := same_new (o := .lst []) hD
        exact ⟨[], [], rfl, upd_same, .nil, (s2.same y).mono (by omega), k2.trans (KeptS.of y)⟩
      · rintro i H3 hi ⟨us, ts, hl, eD, r, s3, k3⟩
        have hi : i < mm := by omega
        obtain ⟨d', rfl⟩ := vstep i hi
        have hvn := vN_eq (d' + 1)
        have hvp : vP (d' + 1) = vN d' := rfl
        rw [hvp] at hvn s3
        have hmul : i * vN d' ≤ 6 * vN d' := Nat.mul_le_mul_right _ (by omega)
        refine ⟨rfl, ?_⟩
        have G : FnOk P w K mg base CX0 (3 + (d' + 1)) f fd ["state", "depth"] (spLValue K d') := G
        refine ⟨_, rfl, _, rfl, _, _, rfl, rfl, s, n + 8 + i * vN d', congrArg (fun z => [V.ref s, V.int z]) (show ((d' + 1 : Nat) : Int) - 1 = (d' : Int) by omega), s3, by omega, fun v t H4 rt s4 k4 => ?_⟩
        have e4 := k4 _ _ eD nD
        obtain ⟨kvs3, e3⟩ := s4.at
        refine ⟨us, e4, by rw [hl]; exact Nat.lt_of_lt_of_le (show i < 100 by omega) (by decide), us ++ [v], ts ++ [t], by rw [List.length_append, hl]; rfl, upd_same, ?_, ?_, ?_⟩
        · exact ((r.kept s3.at s4 k4).updL e4).app (rt.updL e4)
        · refine (s4.updL e4).mono ?_
          rw [hvp, Nat.add_mul, Nat.one_mul]
          omega
        · intro b o e hb
          have e5 := (k3.trans k4) b o e hb
          rw [upd_ne (ne_of_none (k2 b o e hb) hD)]
          exact e5
      · rintro H3 ⟨us, ts, hl, eD, r, s3, k3⟩
        refine ⟨Dl, us, rfl, .inl ⟨SqL.of eD, fun p hp => ?_⟩⟩
        have y := same_new (o := .tup us) hp
        have hmul : mm * vP d ≤ 7 * vP d := Nat.mul_le_mul_right _ h7
        have hvn := vN_eq d
        refine k (.ref p) (.tup ts) _ (.tup upd_same (r.same y) (by rw [hl]; exact Nat.le_trans (show mm ≤ 100 by omega) (by decide))) ((s3.same y).mono ?_) (k3.trans (KeptS.of y))
        have e0 : ((mm : Int)).toNat * vP d = mm * vP d := by rw [Int.toNat_natCast]
        omega
    obtain ⟨tl, hsT, qT⟩ := tail
    refine ⟨_, pss_cons (ps_set (i := 2) scLValue.nd rfl (Or.inl rfl) (pe_call G1 hr2 rfl D1.g D1.F.kp D1.b .nil pass0 (pa_cons (pv 0) (pa_cons pe_int pa_nil))))
      (pss_cons (ps_if (pt_cmpR op_lt (pv 2) pe_int (nomark _)) (pss_one (ps_ret (pe_ix ix_list (pe_lst (pa_cons pe_int (pa_cons pe_int (pa_cons (pe_un un_neg pe_int) (pa_cons pe_int (pa_cons pe_int (pa_cons (pe_un un_neg pe_int) (pa_cons (pe_op op_pow pe_int pe_int) (pa_cons pe_int pa_nil))))))))) (pe_call G1 hr2 rfl D1.g D1.F.kp D1.b .nil pass0 (pa_cons (pv 0) (pa_cons pe_int pa_nil))) (fun _ _ => rfl)))) pss_nil)
      (pss_cons (ps_if (pt_cmpR op_lt (pv 2) pe_int (nomark _)) (pss_one (ps_ret (pe_call G2 hr3 rfl D2.g D2.F.kp D2.b .nil pass0 (pa_cons (pv 0) pa_nil)))) pss_nil)
      (pss_cons (ps_if (pt_cmpR op_eq (pv 2) pe_int (nomark _)) (pss_one (ps_ret (pe_ix ix_list (pe_lst (pa_cons pe_non (pa_cons pe_bl (pa_cons pe_bl (pa_cons (pe_lst pa_nil) (pa_cons (pe_tup pa_nil) (pa_cons pe_dnewK (pa_cons pe_str (pa_cons (pe_lst (pa_cons pe_int pa_nil)) pa_nil))))))))) (pe_call G1 hr2 rfl D1.g D1.F.kp D1.b .nil pass0 (pa_cons (pv 0) (pa_cons pe_int pa_nil))) (fun _ _ => rfl)))) pss_nil)
      (pss_cons (ps_set (i := 3) scLValue.nd rfl (Or.inl rfl) (pe_ifExp (pt_cmpR op_gt (pv 1) pe_int (nomark _)) (pe_ix ix_list (pe_lst (pa_cons pe_int (pa_cons pe_int (pa_cons pe_int (pa_cons pe_int (pa_cons pe_int (pa_cons pe_int pa_nil))))))) (pe_call G1 hr2 rfl D1.g D1.F.kp D1.b .nil pass0 (pa_cons (pv 0) (pa_cons pe_int pa_nil))) (fun _ _ => rfl))
        (pe_ifExp (pt_cmpR op_gt (pv 1) pe_int (nomark _)) (pe_call G1 hr2 rfl D1.g D1.F.kp D1.b .nil pass0 (pa_cons (pv 0) (pa_cons pe_int pa_nil))) pe_int)))
      hsT)))), ?_⟩
    have fin : ∀ (v : V) (t : PT) H' (m : Nat), RT K H' v t → Src H' s m → m ≤ n + vN d → KeptS H H' s → Q v H' := fun v t H' m a b c e => k v t H' a (b.mono c) e
    refine ⟨_, rfl, s, 9, n, rfl, hs, by omega, by decide, by decide, fun way H1 hw s1 k1 => ?_⟩
    -- whole numbers
    refine ⟨_, rfl, _, _, rfl, rfl, _, rfl, ?_⟩
    refine ite2 (fun e => ?_) (fun e => ?_)
    · refine ⟨_, rfl, _, rfl, _, _, rfl, rfl, ⟨by decide, by decide, by decide⟩, by show 8 ≤ sizeLine; decide, fun L hL => ?_⟩
      obtain ⟨kvs, e1⟩ := s1.at
      refine ⟨_, rfl, s, 8, n + 4, rfl, s1.same (same_new hL), by omega, by decide, by decide, fun m H2 hm s2 k2 => ?_⟩
      obtain ⟨z, ez⟩ := pickI m hm
      refine ⟨L, _, (m : Int), _, rfl, rfl, SqL.of (k2 L _ upd_same (ne_of_none e1 hL).symm), atI_nat ez, ?_⟩
      exact fin _ _ _ _ (.int z) s2 (by omega) (k1.trans ((KeptS.of (same_new hL)).trans k2))
    -- texts
    refine ⟨_, rfl, _, _, rfl, rfl, _, rfl, ?_⟩
    refine ite2 (fun e => ?_) (fun e => ?_)
    · refine ⟨_, rfl, s, n + 4, rfl, s1, by omega, fun z H2 hz s2 k2 => ?_⟩
      exact fin _ _ _ _ (.str z (by omega)) s2 (by omega) (k1.trans k2)
    -- others
    refine ⟨_, rfl, rfl, _, rfl, ?_⟩
    refine ite2 (fun e => ?_) (fun e => ?_)
    · refine ⟨by show 0 ≤ sizeLine; decide, fun l1 hl1 => ⟨by show 0 ≤ sizeLine; decide, fun t1 ht1 => fun d1 hd1 => ⟨by show 1 ≤ sizeLine; decide, fun l2 hl2 => ⟨by show 8 ≤ sizeLine; decide, fun L hL => ?_⟩⟩⟩⟩
      obtain ⟨kvs, e1⟩ := s1.at
      have y0 := same_new (o := .lst []) hl1
      have y1 := same_new (o := .tup []) ht1
      have y2 := same_new (o := .dK []) hd1
      have y3 := same_new (o := .lst [.int 1]) hl2
      have y4 := same_new (o := .lst [.non, .bl true, .bl false, .ref l1, .ref t1, .ref d1, .str "", .ref l2]) hL
      have f1 := y4 _ _ (y3 _ _ (y2 _ _ (y1 _ _ (upd_same (H := H1) (a := l1) (o := .lst [])))))
      have f2 := y4 _ _ (y3 _ _ (y2 _ _ (upd_same (H := upd H1 l1 (.lst [])) (a := t1) (o := .tup []))))
      have f3 := y4 _ _ (y3 _ _ (upd_same (H := upd (upd H1 l1 (.lst [])) t1 (.tup [])) (a := d1) (o := .dK [])))
      have f4 := y4 _ _ (upd_same (H := upd (upd (upd H1 l1 (.lst [])) t1 (.tup [])) d1 (.dK [])) (a := l2) (o := .lst [.int 1]))
      have f5 := upd_same (H := upd (upd (upd (upd H1 l1 (.lst [])) t1 (.tup [])) d1 (.dK [])) l2 (.lst [.int 1])) (a := L) (o := .lst [.non, .bl true, .bl false, .ref l1, .ref t1, .ref d1, .str "", .ref l2])
      have yy := y0.trans (y1.trans (y2.trans (y3.trans y4)))
      have nL : L ≠ s := (ne_of_none (y3 _ _ (y2 _ _ (y1 _ _ (y0 _ _ e1)))) hL).symm
      change tCall _ _ _ _ _ (upd (upd (upd (upd (upd H1 l1 (.lst [])) t1 (.tup [])) d1 (.dK [])) l2 (.lst [.int 1])) L (.lst [.non, .bl true, .bl false, .ref l1, .ref t1, .ref d1, .str "", .ref l2])) _
      generalize upd (upd (upd (upd (upd H1 l1 (.lst [])) t1 (.tup [])) d1 (.dK [])) l2 (.lst [.int 1])) L (.lst [.non, .bl true, .bl false, .ref l1, .ref t1, .ref d1, .str "", .ref l2]) = H2 at yy f1 f2 f3 f4 f5 ⊢
      have s2 := s1.same yy
      refine ⟨_, rfl, s, 8, n + 4, rfl, s2, by omega, by decide, by decide, fun m H3 hm s3 k3 => ?_⟩
      obtain ⟨v, t, ev, rt⟩ := pickV f1 f2 f3 f4 m hm
      refine ⟨L, _, (m : Int), _, rfl, rfl, SqL.of (k3 L _ f5 nL), atI_nat ev, ?_⟩
      exact fin _ _ _ _ (rt.kept s2.at s3 k3) s3 (by omega) (k1.trans ((KeptS.of yy).trans k3))
    -- tuples
    refine ⟨_, rfl, _, _, rfl, rfl, _, rfl, ?_⟩
    have k1' := k1
    refine ite2 (fun e => ?_) (fun e => ?_)
    · have hd0 : 0 < d := by
        have := of_decide_eq_true e
        omega
      refine ⟨by show 6 ≤ sizeLine; decide, fun L hL => ?_⟩
      obtain ⟨kvs, e1⟩ := s1.at
      refine ⟨_, rfl, s, 6, n + 4, rfl, s1.same (same_new hL), by omega, by decide, by decide, fun m H2 hm s2 k2 => ?_⟩
      obtain ⟨z, hz, ez⟩ := pick6 m hm
      refine ⟨L, _, (m : Int), _, rfl, rfl, SqL.of (k2 L _ upd_same (ne_of_none e1 hL).symm), atI_nat ez, ?_⟩
      exact qT z _ _ H2 hz (fun _ => hd0) s2 (k1.trans ((KeptS.of (same_new hL)).trans k2))
    · refine ⟨_, rfl, _, _, rfl, rfl, _, rfl, ?_⟩
      refine ite2 (fun e => ?_) (fun e => ?_)
      · have hd0 : 0 < d := by
          have := of_decide_eq_true e
          omega
        refine ⟨_, rfl, s, 3, n + 4, rfl, s1, by omega, by decide, by decide, fun m H2 hm s2 k2 => ?_⟩
        exact qT m _ _ H2 (by omega) (fun _ => hd0) s2 (k1.trans k2)
      · exact qT 0 _ _ H1 (by omega) (fun z => absurd z (Nat.lt_irrefl 0)) (s1.mono (by omega)) k1
theorem ok_lvalue {f f1 f2 : Addr} {fd fd1 fd2 : FuncData} (D : Df K mg "_law_value" "_law_value" sLValue ["state", "depth"] f fd) (B : Bl mg) (D1 : Df K mg "_law_digit" "_law_digit" sDigit ["state", "size"] f1 fd1) (G1 : FnOk P w K mg base CX0 2 f1 fd1 ["state", "size"] spDigit)
    (D2 : Df K mg "_law_text" "_law_text" sLText ["state"] f2 fd2) (G2 : FnOk P w K mg base CX0 3 f2 fd2 ["state"] spLText) : ∀ d : Nat, d ≤ 4 → FnOk P w K mg base CX0 (3 + d + 1) f fd ["state", "depth"] (spLValue K d) := by
  intro d
  induction d with
  | zero => exact fun h => lvalue_step h D B D1 G1 D2 G2 ⟨fun _ _ _ _ z => z.elim, fun _ _ _ _ _ _ _ _ _ _ _ _ _ z => z.elim⟩
  | succ d ih => exact fun h => lvalue_step h D B D1 G1 D2 G2 (ih (by omega))
end
end K01
set_option Elab.async false
set_option linter.all false
set_option maxRecDepth 100000
set_option maxHeartbeats 1000000
/-! En: enumerate of a tuple, of a list or tuple; loops over a list or tuple -/
namespace En
open PySem PySem.Spec PyProof.Rows L2
theorem meets1 {v : Value} {o : Obj} {H : Heap → Prop} (B : Begins v o H) :
    Meets (Builtin.«enumerate.__new__» ⟨[.type "enumerate", v], []⟩) (fun _ R s => H s.heap ∧
      R (.ok (.ret (.ref (s.heap.push o).objs.size))) { s with heap := (s.heap.push o).push { cls := .type "enumerate", data := .fields #[.none, .bool false, .ref s.heap.objs.size, rawInt 0, .none, .none] } }) :=
  .of_wp fun prog w A R s h => by
    obtain ⟨hp, g, d, tk, os⟩ := s; obtain ⟨h1, h⟩ := h
    have hsub := sub_enumerate
    have q1 : ∀ {A' : Around} {E : Value → Shared → Prop} {Q : Value → Shared → Prop}, Q (.ref hp.objs.size) ⟨hp.push o, g, d, tk, os⟩ → wpAny (model prog w) A' (pyIter v) Q E ⟨hp, g, d, tk, os⟩ :=
      fun q => B.iter prog w _ _ ⟨hp, g, d, tk, os⟩ _ h1 q
    wp_walk using q1
    refine wpAny_stack_any fun st => wpAny_pure ?_
    split
    · rename_i c _ _ _ _ _
      cases (c == Value.type "enumerate")
      · wp_walk using q1
        exact ⟨_, rfl, h⟩
      · wp_walk using q1
        exact ⟨_, rfl, h⟩
    · wp_walk using q1
      exact ⟨_, rfl, h⟩
section
variable {prog : Program} {w : World} {A : Around} {E : Value → Shared → Prop} {s : Shared}
theorem begins1 {v : Value} {o : Obj} {H : Heap → Prop} {Q : Value → Shared → Prop} (B : Begins v o H) (h1 : H s.heap)
    (h : ∀ h', IsEnum h' (s.heap.objs.size + 1) s.heap.objs.size 0 .none → h'.get? s.heap.objs.size = some o → h'.objs.size = s.heap.objs.size + 2 →
      (∀ b o, s.heap.get? b = some o → h'.get? b = some o) → Q (.ref (s.heap.objs.size + 1)) { s with heap := h' }) :
    wpAny (model prog w) A (call (.type "enumerate") [v]) Q E s := by
  refine callType_new F.called_enumerate (by decide) (F.typeCall_enumerate_1 _) (F.newCall_enumerate_1 _) (fun obj => F.args_object_init_2 obj _) F.entry_enumerate_new
    (meets1 B) ⟨h1, ?_⟩
  have hz : (s.heap.push o).objs.size = s.heap.objs.size + 1 := Heap.size_push ..
  show _ ∧ _
  rw [hz]
  have he : IsEnum ((s.heap.push o).push { cls := .type "enumerate", data := .fields #[.none, .bool false, .ref s.heap.objs.size, rawInt 0, .none, .none] }) (s.heap.objs.size + 1) s.heap.objs.size 0 .none := by
    have := Heap.get?_push_size (s.heap.push o) (o := { cls := .type "enumerate", data := .fields #[.none, .bool false, .ref s.heap.objs.size, rawInt 0, .none, .none] }) rfl
    rw [hz] at this; exact this
  refine ⟨⟨_, he, rfl⟩, h _ he (Heap.get?_push_of_some _ (Heap.get?_push_size _ B.free)) (by rw [Heap.size_push, hz]) fun b o x => Heap.get?_push_of_some _ (Heap.get?_push_of_some _ x)⟩
end
section
variable {prog : Program} {w : World} {A : Around} {E : Value → Shared → Prop} {s : Shared}
theorem endT {e it t : Addr} {i : Nat} {items : Array Value} {k : Int} {old : Value} {Q : Option Value → Shared → Prop} (hh : A.handled = none) (he : IsEnum s.heap e it k old) (hit : s.heap.IsTupleIter it t i) (ht : s.heap.IsTuple t items) (hx : items[i]? = none)
    (hQ : ∀ h', Heap.ExtBut it s.heap h' → Q none { s with heap := h' }) : wpAny (model prog w) A (pyNext (.ref e)) Q E s := by
  have hT : s.TypeIs (.ref e) "enumerate" := ⟨_, he, rfl⟩
  unfold pyNext
  refine wpAny_bind (wpAny_attempt (wpAny_callSpecial?_slot (name := Str.ofString "__next__") hT F.slot_enumerate_next
    (wpAny_call_entry F.slot_enumerate_next hT F.entry_enumerate_next ?_ (F.args_enumerate_next_1 _))))
  show wpAny _ _ (field (.ref e) 2 >>= _) _ _ _
  refine wpAny_bind (wpAny_field he rfl (x := .ref it) rfl ?_)
  refine wpAny_bind (wpAny_nextOf_tuple_end hh hit ht hx fun h' x he' hx' => ?_)
  obtain ⟨o, ho, hc⟩ := hx'
  refine wpAny_bind (wpAny_isInstance (T := "StopIteration") (b := true) ⟨o, ho, hc⟩ isSubtype_stop ?_)
  exact wpAny_pure (hQ _ he')
end
/-- the tuple at a, each item in a new pair -/
def IteT (K : PySem.W.Frag) (a : Addr) : It :=
  ⟨fun i H => ∃ (xs : List V) (x : V), SqT K H a xs ∧ xs[i]? = some x, fun i H v H' => ∃ T x, v = .ref T ∧ H T = none ∧ H' = upd H T (.tup [.int (i : Nat), x]) ∧ ∀ xs, SqT K H a xs → xs[i]? = some x, fun i H => ∃ xs : List V, SqT K H a xs ∧ xs.length ≤ i⟩
theorem turn_enumT {P : Program} {w : World} {K : PySem.W.Frag} {elts : List Expr} {kk : Nat} {tpos : Pos} (a e it : Addr) :
    Turn P w K (.Tuple elts kk tpos) (IteT K a) [e, it] e (fun i h => (∃ old, IsEnum h e it ((i : Nat) : Int) old) ∧ h.IsTupleIter it a i ∧ e ≠ it ∧ a ≠ it ∧ a ≠ e) where
  mem := by simp
  obj := fun i h st b hb => by
    obtain ⟨⟨old, he⟩, ⟨o, ho, hc, hd⟩, _⟩ := st
    have e' : b = e ∨ b = it := by simpa using hb
    rcases e' with z | z
    · rw [z]; exact ⟨_, he, fun v q => nomatch q⟩
    · rw [z]; exact ⟨o, ho, fun v q => by rw [hd] at q; cases q⟩
  keep := fun i h h' st k => let ⟨⟨old, he⟩, hi, hne⟩ := st; ⟨⟨old, k e (by simp) _ he⟩, hi.at fun o q => k it (by simp) o q, hne⟩
  item := by
    intro X hP hw hK hc i pins s σ H E I hf st hg
    subst hP hw hK
    obtain ⟨⟨old, he⟩, hit, hne, hai, hae⟩ := st
    obtain ⟨xs, x, hq, hx⟩ := hg
    obtain ⟨its, rv, p, hz⟩ := I.tuple hq
    obtain ⟨u, hu, ru⟩ := rv.get hx
    have hu' : its.toArray[i]? = some u := by simpa using hu
    have hlt : i < its.toArray.size := (Array.getElem?_eq_some_iff.mp hu').1
    have pt : s.heap.IsTuple a its.toArray := p
    have hel : e < s.heap.objs.size := Heap.lt_size he
    have hil : it < s.heap.objs.size := by obtain ⟨_, q, _⟩ := hit; exact Heap.lt_size q
    refine wpAny_pyNext_enum_itemD (Draws.tuple (A := X.A.in1) (show X.A.in1.handled = none from I.ok.hd hc) it a hai its.toArray) he (show s.heap.IsTupleIter it a i ∧ s.heap.IsTuple a its.toArray from ⟨hit, pt⟩) hlt hne (by
      intro hm
      rcases List.mem_cons.mp hm with z | hm
      · exact hne z
      · exact hae (List.mem_singleton.mp hm).symm) fun u2 h' tk hP ho hst hT hsz hk => ?_
    have hue : u2 = u := by
      have hP : its.toArray[i]? = some u2 := hP
      rw [hu'] at hP
      exact (Option.some.inj hP).symm
    subst hue
    refine ⟨_, rfl, wpAny_letOwnedTupleGo_enum (s := { s with heap := h', toks := tk + 1 }) ho fun h'' he' sb => ?_⟩
    have hT2 : h''.get? s.heap.objs.size = some { cls := .type "tuple", data := .seq #[.int i tk, u2] } := (sb.2 _ (Nat.ne_of_gt hel)).trans hT
    have new : ObjOk X.prog X.w (upd H s.heap.objs.size (.tup [.int (i : Nat), x])) h'' s.heap.objs.size (.tup [.int (i : Nat), x]) :=
      ⟨by show 2 ≤ sizeLine; decide, [.int i tk, u2], .cons ⟨_, rfl⟩ (.cons ru .nil), ⟨_, hT2, rfl, _, rfl⟩⟩
    have I1 : Inv X pins σ (upd H s.heap.objs.size (.tup [.int (i : Nat), x])) { s with heap := h'', toks := tk + 1 } :=
      I.turnedNew (ch := [e, it]) (fun b ob hb q => (sb.2 b (fun z => hb (by simp [z]))).trans (hk b ob (fun z => hb (by simp [z])) (fun z => hb (by simp [z])) q)) hf (Nat.le_refl _) new
    refine ⟨.ref s.heap.objs.size, _, I1, rfl, ⟨_, x, rfl, I.hok.fresh (Nat.le_refl _), rfl, fun ys hy => by rw [I.tuple_inj hy hq]; exact hx⟩, ⟨⟨u2, ?_⟩, hst.1.at fun o q => (sb.2 it (Ne.symm hne)).trans q, hne, hai, hae⟩, fun b hb => ?_⟩
    · have e1 : ((i + 1 : Nat) : Int) = (i : Int) + 1 := by omega
      rw [e1]; exact he'
    · have hb' : b < s.heap.objs.size := by
        have e' : b = e ∨ b = it := by simpa using hb
        rcases e' with z | z
        · rw [z]; exact hel
        · rw [z]; exact hil
      rw [upd_ne (Nat.ne_of_lt hb')]
      exact (hf b hb).1
  done := by
    intro X hP hw hK hc i pins s σ H E I hf st hg
    subst hP hw hK
    obtain ⟨⟨old, he⟩, hit, hne, hai, hae⟩ := st
    obtain ⟨xs, hq, hx⟩ := hg
    obtain ⟨its, rv, p, hz⟩ := I.tuple hq
    obtain ⟨f0, f1, f2, f3, f4, f5⟩ := hf it (by simp)
    have hl := rv.length
    have pt : s.heap.IsTuple a its.toArray := p
    exact endT (I.ok.hd hc) he hit pt (by simp; omega) fun h' eb => ⟨rfl, I.turned (t' := s.toks) (fun b o hb q => eb b o hb q) f0 f1 f3 f4 f5⟩
  self := fun A i s Q E st h => let ⟨⟨_, he⟩, _⟩ := st; wpAny_pyIter_enum he h
/-- enumerate(a list or tuple) -/
def iEnumB (K : PySem.W.Frag) (ta : TA) : TI := fun σ H R => ta σ H fun vs H1 => ∃ a xs, vs = [.ref a] ∧ ((SqL K H1 a xs ∧ R (Ite K a) H1) ∨ (SqT K H1 a xs ∧ R (IteT K a) H1))
theorem pi_enumB {X : Cx} {e : Expr} {ta : TA} {p pos tpos : Pos} {elts : List Expr} {kk : Nat} (hg : Gl X "enumerate") (hm : X.mg "enumerate" = none) (ha : PA X [e] ta) (hs : starEach [e] X.env = [(false, eval e X.env)] := by rfl) :
    PI X (.Tuple elts kk tpos) (.Call (.Name "enumerate" p) [e] [] pos) (iEnumB X.K ta) := by
  refine ⟨fun pins s σ H R I h => ?_⟩
  refine Call_ (ld_blt I hg hm boot_enumerate (PyProof.Rows.callWith_type1 (thn (ha.run pos pins s σ H _ I h) fun us s1 ⟨vs, H1, I1, r1, q1⟩ => ?_) hs rfl))
  obtain ⟨a, xs, ex, q1⟩ := q1
  subst ex
  cases r1 with
  | cons r rr =>
    cases rr
    cases r
    have fps : ∀ {h' : Heap} (I2 : Inv X pins σ H1 { s1 with heap := h' }), ∀ b ∈ [s1.heap.objs.size + 1, s1.heap.objs.size], s1.heap.objs.size ≤ b := fun I2 b hb => by
      have e' : b = s1.heap.objs.size + 1 ∨ b = s1.heap.objs.size := by simpa using hb
      rcases e' with z | z
      · rw [z]; exact Nat.le_add_right _ _
      · rw [z]; exact Nat.le_refl _
    rcases q1 with ⟨hq, q⟩ | ⟨hq, q⟩
    · obtain ⟨its, rv, p', hz⟩ := I1.list hq
      refine call_enumerate_list p'.isList fun h' he hit hsz hk => wpAny_pyIter_enum he ?_
      have I2 : Inv X pins σ H1 { s1 with heap := h' } := I1.kept (t' := s1.toks) hk
      refine ⟨s1.heap.objs.size + 1, [s1.heap.objs.size + 1, s1.heap.objs.size], _, _, H1, rfl, I2, turn_enum a (s1.heap.objs.size + 1) s1.heap.objs.size, ⟨⟨.none, he⟩, hit, Nat.succ_ne_self _⟩, fun b hb => I1.fpOk (fps I2 b hb) (I1.hok.fresh (fps I2 b hb)), q⟩
    · obtain ⟨its, rv, p', hz⟩ := I1.tuple hq
      have pt : s1.heap.IsTuple a its.toArray := p'
      have hal : a < s1.heap.objs.size := by obtain ⟨_, q, _⟩ := pt; exact Heap.lt_size q
      refine begins1 (begins_tuple a its.toArray) pt fun h' he hit hsz hk => wpAny_pyIter_enum he ?_
      have I2 : Inv X pins σ H1 { s1 with heap := h' } := I1.kept (t' := s1.toks) hk
      refine ⟨s1.heap.objs.size + 1, [s1.heap.objs.size + 1, s1.heap.objs.size], _, _, H1, rfl, I2, turn_enumT a (s1.heap.objs.size + 1) s1.heap.objs.size, ⟨⟨.none, he⟩, ⟨_, hit, rfl, rfl⟩, Nat.succ_ne_self _, Nat.ne_of_lt hal, Nat.ne_of_lt (Nat.lt_succ_of_lt hal)⟩, fun b hb => I1.fpOk (fps I2 b hb) (I1.hok.fresh (fps I2 b hb)), q⟩
/-- one of two walks -/
theorem pi_or {X : Cx} {tg e : Expr} {a b : TI} (ha : PI X tg e a) (hb : PI X tg e b) : PI X tg e (fun σ H R => a σ H R ∨ b σ H R) := ⟨fun pins s σ H R I h => h.elim (ha.run pins s σ H R I) (hb.run pins s σ H R I)⟩
theorem for_enumT {K : PySem.W.Frag} {a : Addr} {xs : List V} {g : TG} {tb : TS} {D : Ends} {σ : L2.St} {H : Hp} (Pv : Nat → L2.St → Hp → Prop) (h0 : Pv 0 σ H) (hl : ∀ i σ H, i ≤ xs.length → Pv i σ H → SqT K H a xs)
    (hs : ∀ i x T σ H, xs[i]? = some x → Pv i σ H → H T = none → g (.ref T) σ (upd H T (.tup [.int (i : Nat), x])) fun σ2 H2 => tb { D with nx := Pv (i + 1), ct := Pv (i + 1), bk := D.nx } σ2 H2) (hd : ∀ σ H, Pv xs.length σ H → D.nx σ H) :
    ∃ W : Nat → Nat → L2.St → Hp → Prop, (∃ m, W 0 m σ H) ∧ ∀ i m σ H, W i m σ H →
      ((IteT K a).stop i H ∧ D.nx σ H) ∨ ((IteT K a).go i H ∧ ∃ N : L2.St → Hp → Prop, (∀ σ' H', N σ' H' → ∃ m', m' < m ∧ W (i + 1) m' σ' H') ∧ ∀ x H', (IteT K a).yld i H x H' → g x σ H' fun σ2 H2 => tb { D with nx := N, ct := N, bk := D.nx } σ2 H2) := by
  refine ⟨fun i m σ H => m = xs.length - i ∧ i ≤ xs.length ∧ Pv i σ H, ⟨xs.length, by simp, Nat.zero_le _, h0⟩, ?_⟩
  rintro i m σ H ⟨rfl, hi, p⟩
  have q := hl i σ H hi p
  by_cases hlt : i < xs.length
  · refine .inr ⟨⟨xs, xs[i], q, by simp [hlt]⟩, Pv (i + 1), fun σ' H' p' => ⟨xs.length - (i + 1), by omega, rfl, hlt, p'⟩, fun x H' y => ?_⟩
    obtain ⟨T, x, rfl, hT, rfl, hx⟩ := y
    exact hs i x T σ H (hx xs q) p hT
  · have e : i = xs.length := by omega
    subst e
    exact .inl ⟨⟨xs, q, Nat.le_refl _⟩, hd σ H p⟩
theorem lc_enumL {K : PySem.W.Frag} {a : Addr} {xs : List V} {g : TG} {tt : TT} {te : TE} {vs : List Nat} {σ : L2.St} {H1 : Hp} {D : Addr} {Qd : Hp → Prop} (Pv : Nat → Hp → Prop) (h0 : Pv 0 (upd H1 D (.lst []))) (hl : ∀ i H, i ≤ xs.length → Pv i H → SqL K H a xs)
    (hs : ∀ i x T H, xs[i]? = some x → Pv i H → H T = none → g (.ref T) (wipe σ vs) (upd H T (.tup [.int (i : Nat), x])) fun σ2 H2 => wipe σ2 vs = wipe σ vs ∧ tt σ2 H2 fun b H3 =>
      if b = true then te σ2 H3 fun y H4 => ∃ acc, H4 D = some (.lst acc) ∧ acc.length < sizeLine ∧ Pv (i + 1) (upd H4 D (.lst (acc ++ [y]))) else Pv (i + 1) H3) (hd : ∀ H, Pv xs.length H → Qd H) :
    ∃ W : Nat → Nat → Hp → Prop, (∃ m, W 0 m (upd H1 D (.lst []))) ∧ ∀ i m H, W i m H →
      ((Ite K a).stop i H ∧ Qd H) ∨ ((Ite K a).go i H ∧ ∃ Nx : Hp → Prop, (∀ H', Nx H' → ∃ m', m' < m ∧ W (i + 1) m' H') ∧ ∀ x H', (Ite K a).yld i H x H' → g x (wipe σ vs) H' fun σ2 H2 => wipe σ2 vs = wipe σ vs ∧ tt σ2 H2 fun b H3 =>
        if b = true then te σ2 H3 fun y H4 => ∃ acc, H4 D = some (.lst acc) ∧ acc.length < sizeLine ∧ Nx (upd H4 D (.lst (acc ++ [y]))) else Nx H3) := by
  refine ⟨fun i m H => m = xs.length - i ∧ i ≤ xs.length ∧ Pv i H, ⟨xs.length, by simp, Nat.zero_le _, h0⟩, ?_⟩
  rintro i m H ⟨rfl, hi, p⟩
  have q := hl i H hi p
  by_cases hlt : i < xs.length
  · refine .inr ⟨⟨xs, xs[i], q, by simp [hlt]⟩, Pv (i + 1), fun H' p' => ⟨xs.length - (i + 1), by omega, rfl, hlt, p'⟩, fun x H' y => ?_⟩
    obtain ⟨T, x, rfl, hT, rfl, hx⟩ := y
    exact hs i x T H (hx xs q) p hT
  · have e : i = xs.length := by omega
    subst e
    exact .inl ⟨⟨xs, q, Nat.le_refl _⟩, hd H p⟩
theorem lc_enumT {K : PySem.W.Frag} {a : Addr} {xs : List V} {g : TG} {tt : TT} {te : TE} {vs : List Nat} {σ : L2.St} {H1 : Hp} {D : Addr} {Qd : Hp → Prop} (Pv : Nat → Hp → Prop) (h0 : Pv 0 (upd H1 D (.lst []))) (hl : ∀ i H, i ≤ xs.length → Pv i H → SqT K H a xs)
    (hs : ∀ i x T H, xs[i]? = some x → Pv i H → H T = none → g (.ref T) (wipe σ vs) (upd H T (.tup [.int (i : Nat), x])) fun σ2 H2 => wipe σ2 vs = wipe σ vs ∧ tt σ2 H2 fun b H3 =>
      if b = true then te σ2 H3 fun y H4 => ∃ acc, H4 D = some (.lst acc) ∧ acc.length < sizeLine ∧ Pv (i + 1) (upd H4 D (.lst (acc ++ [y]))) else Pv (i + 1) H3) (hd : ∀ H, Pv xs.length H → Qd H) :
    ∃ W : Nat → Nat → Hp → Prop, (∃ m, W 0 m (upd H1 D (.lst []))) ∧ ∀ i m H, W i m H →
      ((IteT K a).stop i H ∧ Qd H) ∨ ((IteT K a).go i H ∧ ∃ Nx : Hp → Prop, (∀ H', Nx H' → ∃ m', m' < m ∧ W (i + 1) m' H') ∧ ∀ x H', (IteT K a).yld i H x H' → g x (wipe σ vs) H' fun σ2 H2 => wipe σ2 vs = wipe σ vs ∧ tt σ2 H2 fun b H3 =>
        if b = true then te σ2 H3 fun y H4 => ∃ acc, H4 D = some (.lst acc) ∧ acc.length < sizeLine ∧ Nx (upd H4 D (.lst (acc ++ [y]))) else Nx H3) := by
  refine ⟨fun i m H => m = xs.length - i ∧ i ≤ xs.length ∧ Pv i H, ⟨xs.length, by simp, Nat.zero_le _, h0⟩, ?_⟩
  rintro i m H ⟨rfl, hi, p⟩
  have q := hl i H hi p
  by_cases hlt : i < xs.length
  · refine .inr ⟨⟨xs, xs[i], q, by simp [hlt]⟩, Pv (i + 1), fun H' p' => ⟨xs.length - (i + 1), by omega, rfl, hlt, p'⟩, fun x H' y => ?_⟩
    obtain ⟨T, x, rfl, hT, rfl, hx⟩ := y
    exact hs i x T H (hx xs q) p hT
  · have e : i = xs.length := by omega
    subst e
    exact .inl ⟨⟨xs, q, Nat.le_refl _⟩, hd H p⟩
end En
set_option Elab.async false
set_option linter.all false
set_option maxRecDepth 100000
set_option maxHeartbeats 4000000
namespace K01
open PySem L2 Xo
abbrev sLPlain : Stmt := top 39
abbrev sLCode : Stmt := top 40
section
variable {P : Program} {w : World} {K : PySem.W.Frag} {mg : Str → Option Value} {base : Heap}
def spLPlain (K : PySem.W.Frag) (d : Nat) : Sp := fun vs H Q _ => ∃ (v : V) (t : PT), vs = [v, .int (d : Int)] ∧ RT K H v t ∧ ∀ H', Same H H' → Q (.bl (pl d t)) H'
def spLPrev (K : PySem.W.Frag) : Nat → Sp
  | 0 => fun _ _ _ _ => False
  | d + 1 => spLPlain K d
abbrev NLP : List Str := ["thing", "depth", "wrong", "sign", "item"]
theorem scLPlain : FnScope NLP ["thing", "depth"] (defScope sLPlain) := ⟨rfl, rfl, rfl, by decide +kernel, rfl, by decide +kernel, by decide +kernel⟩
theorem pl_oth (d : Nat) : pl d .oth = false := by cases d <;> rfl
theorem signs_all (z : Str) : (z.cps.toList.map fun c => !okSign c).all (fun b => !b) = z.cps.toList.all okSign := by
  rw [List.all_map]
  congr 1
  funext c
  show (!(!okSign c)) = okSign c
  rw [Bool.not_not]
theorem bad_at {z : Str} {i : Nat} {b : Bool} (h : (z.cps.toList.map fun c => !okSign c)[i]? = some b) {c : Nat} (hc : z.cps[i]? = some c) : b = !okSign c := by
  have hc2 : z.cps.toList[i]? = some c := by
    rw [Array.getElem?_toList]
    exact hc
  rw [List.getElem?_map, hc2] at h
  exact (Option.some.inj h).symm
theorem lplain_step {f : Addr} {fd : FuncData} {d : Nat} (D : Df K mg "_law_plain" "_law_plain" sLPlain ["thing", "depth"] f fd) (B : Bl mg) (B2 : Bk mg) (G : FnOk P w K mg base CX0 (1 + d) f fd ["thing", "depth"] (spLPrev K d)) : FnOk P w K mg base CX0 (1 + d + 1) f fd ["thing", "depth"] (spLPlain K d) := by
  refine D.F.ok scLPlain (fun vs H Q E h => ?_) (fun cdv A outer s H vs Q E hr h => ?_)
  · obtain ⟨v, t, rfl, _⟩ := h
    rfl
  · obtain ⟨v, t, rfl, o, k⟩ := h
    have hu64 := hr.units
    obtain ⟨tv, ty, e1, e2, e3, e4⟩ := rt_ty o
    refine ⟨_, pss_cons (ps_if (pt_cmp (pc_isN (pv 0))) (pss_one (ps_ret pe_bl)) pss_nil)
      (pss_cons (ps_if (pt_val (pe_callB call_isi (by rfl) B.isinstance (by decide +kernel) (pa_cons (pv 0) (pa_cons (pInt (by rfl) B.int) pa_nil)))) (pss_one (ps_ret (pe_not (pe_callB call_isi (by rfl) B.isinstance (by decide +kernel) (pa_cons (pv 0) (pa_cons (pBool (by rfl) B.bool) pa_nil)))))) pss_nil)
      (pss_cons (ps_if (pt_val (pe_callB call_isi (by rfl) B.isinstance (by decide +kernel) (pa_cons (pv 0) (pa_cons (pTy (t := "str") (by rfl) B2.str (by decide +kernel)) pa_nil))))
        (pss_cons (ps_setLc (i := 2) (own := [("sign", 3)]) (g := gName 3) rfl scLPlain.nd rfl rfl (sw_true rfl rfl rfl (by decide +kernel)) (pi_str (pv 0)) (blkOk_by (own := [("sign", 3)]) (N := NLP) (sc := defScope sLPlain) (by decide +kernel)) (fun _ _ _ _ _ => pg_name (i := 3) scLPlain.nd rfl (Or.inl rfl))
            (fun _ _ _ _ _ => pts_one (PW.pt (pw_or (pt_cmpR op_lt (pe_callB call_ord (by rfl) B2.ord (by decide +kernel) (pa_cons (pv 3) pa_nil)) pe_int (nomark _)) (pw_or (pt_cmpR op_gt (pe_callB call_ord (by rfl) B2.ord (by decide +kernel) (pa_cons (pv 3) pa_nil)) pe_int (nomark _)) (pw_or1 (pt_cmpR op_eq (pe_callB call_ord (by rfl) B2.ord (by decide +kernel) (pa_cons (pv 3) pa_nil)) pe_int (nomark _))))))) (fun _ _ _ _ _ => pv 3))
        (pss_one (ps_ret (pe_and (pe_cmpR op_lt (pe_callB call_len_str (by rfl) B.len PySem.boot_len (pa_cons (pv 0) pa_nil)) pe_int (nomark _)) (pe_one (pe_cmpR (Cm.op_eqE hu64) (pv 2) (pe_lst pa_nil) (nomark _))))))) pss_nil)
      (pss_cons (ps_if (PW.pt (pw_or (pt_not (pt_val (pe_callB call_isi (by rfl) B.isinstance (by decide +kernel) (pa_cons (pv 0) (pa_cons (pTy (t := "tuple") (by rfl) B.tuple (by decide +kernel)) pa_nil))))) (pw_or (pt_cmpR op_eq (pv 1) pe_int (nomark _)) (pw_or1 (pt_cmpR op_gt (pe_callB call_len_seq (by rfl) B.len PySem.boot_len (pa_cons (pv 0) pa_nil)) pe_int (nomark _)))))) (pss_one (ps_ret pe_bl)) pss_nil)
      (pss_one (ps_ret (pe_cmpR (Cm.op_eqE hu64) (pe_lc (own := [("item", 4)]) (g := gName 4) rfl scLPlain.nd (pi_tup (pv 0)) (blkOk_by (own := [("item", 4)]) (N := NLP) (sc := defScope sLPlain) (by decide +kernel)) (fun _ _ _ _ _ => pg_name (i := 4) scLPlain.nd rfl (Or.inl rfl))
          (fun _ _ _ _ _ => pts_one (pt_not (pt_val (pe_call G hr rfl D.g D.F.kp D.b .nil pass0 (pa_cons (pv 4) (pa_cons (pe_op op_sub (pv 1) pe_int) pa_nil)))))) (fun _ _ _ _ _ => pv 4)) (pe_lst pa_nil) (nomark _))))))), ?_⟩
    refine ⟨_, rfl, _, rfl, ?_⟩
    rw [rt_notup o]
    have id0 : Same H H := fun _ _ z => z
    cases o with
    | non => exact iteYes rfl (by have := k H id0; cases d <;> exact this)
    | bl b =>
      refine iteNo rfl ⟨_, rfl, _, _, _, _, _, rfl, .ty _, ty, e1, _, rfl, iteYes rfl ⟨_, rfl, _, _, _, _, _, rfl, .ty _, ty, e2, _, rfl, ?_⟩⟩
      have := k H id0
      cases d <;> exact this
    | int z =>
      refine iteNo rfl ⟨_, rfl, _, _, _, _, _, rfl, .ty _, ty, e1, _, rfl, iteYes rfl ⟨_, rfl, _, _, _, _, _, rfl, .ty _, ty, e2, _, rfl, ?_⟩⟩
      have := k H id0
      cases d <;> exact this
    | str z hz =>
      refine iteNo rfl ⟨_, rfl, _, _, _, _, _, rfl, .ty _, ty, e1, _, rfl, iteNo rfl ⟨_, rfl, _, _, _, _, _, rfl, .ty _, ty, e3, _, rfl, iteYes rfl ?_⟩⟩
      have k : ∀ H', Same H H' → Q (.bl (decide (z.length ≤ 40) && z.cps.toList.all okSign)) H' := fun H' sm => by
        have := k H' sm
        cases d <;> exact this
      have hz2 : z.length ≤ sizeLine := Nat.le_trans hz (by decide)
      refine ⟨_, rfl, z, rfl, fun Dl hD => ?_⟩
      refine Cm.lc_none (walk_str (z := z)) (z.cps.toList.map fun c => !okSign c) (by rw [List.length_map, Array.length_toList]) hz2 hD (fun _ _ => trivial) (fun i b x H2 H3 Qk N hb sm hy hQ hN => ?_) (fun H2 ys sm hl em => ?_)
      · obtain ⟨rfl, c, hc, rfl⟩ := hy
        have hb := bad_at hb hc
        refine ⟨rfl, ?_⟩
        have t1 : ∀ x : Nat, (x : Int) < 32 ↔ x < 32 := fun x => by omega
        cases hk : okSign c with
        | true =>
          have hq : 32 ≤ c ∧ c ≤ 126 ∧ c ≠ 37 := by
            unfold okSign at hk
            rw [Bool.and_eq_true, Bool.and_eq_true, decide_eq_true_iff, decide_eq_true_iff, Bool.not_eq_true', decide_eq_false_iff_not] at hk
            exact ⟨hk.1.1, hk.1.2, hk.2⟩
          obtain ⟨q1, q2, q3⟩ := hq
          refine ⟨_, rfl, _, rfl, rfl, _, _, rfl, rfl, _, rfl, iteNo (decide_eq_false (show ¬ (c : Int) < 32 by omega)) ⟨_, rfl, _, rfl, rfl, _, _, rfl, rfl, _, rfl, iteNo (decide_eq_false (show ¬ (c : Int) > 126 by omega)) ⟨_, rfl, _, rfl, rfl, rfl, _, rfl, iteNo (decide_eq_false (fun z => q3 (by have h : (c : Int) = 37 := V.int.inj z; omega))) ?_⟩⟩⟩
          exact hN (by rw [hb, hk]; rfl) _ fun _ _ z => z
        | false =>
          have hbt : b = true := by rw [hb, hk]; rfl
          by_cases q1 : 32 ≤ c
          · by_cases q2 : c ≤ 126
            · have q3 : c = 37 := by
                refine Decidable.byContradiction fun n3 => ?_
                have : okSign c = true := by
                  unfold okSign
                  rw [decide_eq_true q1, decide_eq_true q2, decide_eq_false n3]
                  rfl
                rw [hk] at this
                cases this
              refine ⟨_, rfl, _, rfl, rfl, _, _, rfl, rfl, _, rfl, iteNo (decide_eq_false (show ¬ (c : Int) < 32 by omega)) ⟨_, rfl, _, rfl, rfl, _, _, rfl, rfl, _, rfl, iteNo (decide_eq_false (show ¬ (c : Int) > 126 by omega)) ⟨_, rfl, _, rfl, rfl, rfl, _, rfl, iteYes (decide_eq_true (by rw [q3]; rfl)) ?_⟩⟩⟩
              exact ⟨_, rfl, hQ hbt _ _ fun _ _ z => z⟩
            · refine ⟨_, rfl, _, rfl, rfl, _, _, rfl, rfl, _, rfl, iteNo (decide_eq_false (show ¬ (c : Int) < 32 by omega)) ⟨_, rfl, _, rfl, rfl, _, _, rfl, rfl, _, rfl, iteYes (decide_eq_true (show (c : Int) > 126 by omega)) ?_⟩⟩
              exact ⟨_, rfl, hQ hbt _ _ fun _ _ z => z⟩
          · refine ⟨_, rfl, _, rfl, rfl, _, _, rfl, rfl, _, rfl, iteYes (decide_eq_true (show (c : Int) < 32 by omega)) ?_⟩
            exact ⟨_, rfl, hQ hbt _ _ fun _ _ z => z⟩
      · rw [signs_all] at em
        refine ⟨_, rfl, z, rfl, hz2, _, _, rfl, rfl, _, rfl, ?_⟩
        have e : decide ((z.length : Int) < 41) = decide (z.length ≤ 40) := decide_eq_decide.mpr (by omega)
        refine ite2 (fun h => ?_) (fun h => ?_)
        · refine ⟨_, rfl, by show 0 ≤ sizeLine; decide, fun L hL => ⟨Dl, L, ys, rfl, rfl, same_new hL _ _ hl, upd_same, ?_⟩⟩
          rw [em]
          have := k _ (fun b o e => same_new (o := .lst []) hL _ _ (sm b o e))
          rw [← e, h, Bool.true_and] at this
          exact this
        · have := k _ sm
          rw [← e, Bool.eq_false_iff.mpr h, Bool.false_and] at this
          exact this
    | @tup a vs ts h r hl =>
      refine iteNo rfl ⟨_, rfl, _, _, _, _, _, rfl, .ty _, ty, e1, _, rfl, iteNo rfl ⟨_, rfl, _, _, _, _, _, rfl, .ty _, ty, e3, _, rfl, iteNo rfl ⟨_, rfl, _, _, _, _, _, rfl, .ty _, ty, e4, _, rfl, iteNo rfl ?_⟩⟩⟩
      cases d with
      | zero => exact ⟨_, rfl, rfl, _, rfl, iteYes rfl (k H id0)⟩
      | succ d =>
        have k : ∀ H', Same H H' → Q (.bl (decide (ts.length ≤ 6) && ts.all (pl d))) H' := k
        have G : FnOk P w K mg base CX0 (1 + (d + 1)) f fd ["thing", "depth"] (spLPlain K d) := G
        refine ⟨_, rfl, rfl, _, rfl, iteNo (decide_eq_false fun z => by have := V.int.inj z; omega) ⟨_, rfl, a, _, rfl, .inr (SqT.of h), _, _, rfl, rfl, _, rfl, ?_⟩⟩
        have e : decide ((vs.length : Int) > 6) = !decide (ts.length ≤ 6) := by
          rw [r.length]
          by_cases h : ts.length ≤ 6
          · rw [decide_eq_true h, decide_eq_false (by omega)]; rfl
          · rw [decide_eq_false h, decide_eq_true (by omega)]; rfl
        rw [e]
        by_cases h6 : ts.length ≤ 6
        · rw [decide_eq_true h6] at k ⊢
          refine iteNo rfl ⟨_, rfl, a, rfl, ⟨_, SqT.of h⟩, fun Dl hD => ?_⟩
          refine Cm.lc_none (walk_tup (K := K) (a := a) (xs := vs)) (ts.map fun t => !pl d t) (by rw [List.length_map, r.length]) (Nat.le_trans hl (by decide)) hD (fun _ sm => SqT.of (sm _ _ h)) (fun i b y H2 H3 Qk N hb sm hy hQ hN => ?_) (fun H2 ys sm hl2 em => ?_)
          · obtain ⟨rfl, hx⟩ := hy
            obtain ⟨t, ht, rt⟩ := r.get hx
            have hb : b = !pl d t := by
              rw [List.getElem?_map, ht] at hb
              exact (Option.some.inj hb).symm
            refine ⟨rfl, ?_⟩
            refine ⟨_, rfl, _, rfl, _, _, rfl, rfl, y, t, congrArg (fun z => [y, V.int z]) (show ((d + 1 : Nat) : Int) - 1 = (d : Int) by omega), rt.same sm, fun H4 s4 => ⟨_, rfl, ?_⟩⟩
            cases hp : pl d t with
            | true => exact iteNo rfl (hN (by rw [hb, hp]; rfl) _ s4)
            | false => exact iteYes rfl ⟨_, rfl, hQ (by rw [hb, hp]; rfl) _ _ s4⟩
          · refine ⟨by show 0 ≤ sizeLine; decide, fun L hL => ⟨Dl, L, ys, rfl, rfl, same_new hL _ _ hl2, upd_same, ?_⟩⟩
            have e5 : (ts.map fun t => !pl d t).all (fun b => !b) = ts.all (pl d) := by
              rw [List.all_map]
              congr 1
              funext t
              show (!(!pl d t)) = pl d t
              rw [Bool.not_not]
            rw [em, e5]
            exact k _ fun b o e => same_new (o := .lst []) hL _ _ (sm b o e)
        · rw [decide_eq_false h6] at k ⊢
          exact iteYes rfl (k _ id0)
    | lst h => exact iteNo rfl ⟨_, rfl, _, _, _, _, _, rfl, .ty _, ty, e1, _, rfl, iteNo rfl ⟨_, rfl, _, _, _, _, _, rfl, .ty _, ty, e3, _, rfl, iteNo rfl ⟨_, rfl, _, _, _, _, _, rfl, .ty _, ty, e4, _, rfl, iteYes rfl (by have := k H id0; rw [pl_oth] at this; exact this)⟩⟩⟩
    | dk h => exact iteNo rfl ⟨_, rfl, _, _, _, _, _, rfl, .ty _, ty, e1, _, rfl, iteNo rfl ⟨_, rfl, _, _, _, _, _, rfl, .ty _, ty, e3, _, rfl, iteNo rfl ⟨_, rfl, _, _, _, _, _, rfl, .ty _, ty, e4, _, rfl, iteYes rfl (by have := k H id0; rw [pl_oth] at this; exact this)⟩⟩⟩
    | ins h b => exact iteNo rfl ⟨_, rfl, _, _, _, _, _, rfl, .ty _, ty, e1, _, rfl, iteNo rfl ⟨_, rfl, _, _, _, _, _, rfl, .ty _, ty, e3, _, rfl, iteNo rfl ⟨_, rfl, _, _, _, _, _, rfl, .ty _, ty, e4, _, rfl, iteYes rfl (by have := k H id0; rw [pl_oth] at this; exact this)⟩⟩⟩
theorem ok_lplain {f : Addr} {fd : FuncData} (D : Df K mg "_law_plain" "_law_plain" sLPlain ["thing", "depth"] f fd) (B : Bl mg) (B2 : Bk mg) : ∀ d : Nat, FnOk P w K mg base CX0 (1 + d + 1) f fd ["thing", "depth"] (spLPlain K d) := by
  intro d
  induction d with
  | zero => exact lplain_step (d := 0) D B B2 ⟨fun _ _ _ _ z => False.elim z, fun _ _ _ _ _ _ _ _ _ _ _ _ _ z => False.elim z⟩
  | succ d ih => exact lplain_step D B B2 ih
def spLCode (K : PySem.W.Frag) (d : Nat) : Sp := fun vs H Q _ => ∃ (v : V) (t : PT), vs = [v] ∧ RT K H v t ∧ pl d t = true ∧ ∀ H', Same H H' → Q (nI (cd d t)) H'
def spLCPrev (K : PySem.W.Frag) : Nat → Sp
  | 0 => fun _ _ _ _ => False
  | d + 1 => spLCode K d
abbrev NLC : List Str := ["key", "found", "item"]
theorem scLCode : FnScope NLC ["key"] (defScope sLCode) := ⟨rfl, rfl, rfl, by decide +kernel, rfl, by decide +kernel, by decide +kernel⟩
theorem lcode_step {f : Addr} {fd : FuncData} {d : Nat} (D : Df K mg "_law_code" "_law_code" sLCode ["key"] f fd) (B : Bl mg) (B2 : Bk mg) (G : FnOk P w K mg base CX0 (1 + d) f fd ["key"] (spLCPrev K d)) : FnOk P w K mg base CX0 (1 + d + 1) f fd ["key"] (spLCode K d) := by
  refine D.F.ok scLCode (fun vs H Q E h => ?_) (fun cdv A outer s H vs Q E hr h => ?_)
  · obtain ⟨v, t, rfl, _⟩ := h
    rfl
  · obtain ⟨v, t, rfl, o, hp, k⟩ := h
    obtain ⟨tv, ty, e1, e2, e3, e4⟩ := rt_ty o
    refine ⟨_, pss_cons (ps_if (pt_cmp (pc_isN (pv 0))) (pss_one (ps_ret pe_int)) pss_nil)
      (pss_cons (ps_if (pt_val (pe_callB call_isi (by rfl) B.isinstance (by decide +kernel) (pa_cons (pv 0) (pa_cons (pInt (by rfl) B.int) pa_nil)))) (pss_one (ps_ret (pe_op op_modN (pv 0) pe_int))) pss_nil)
      (pss_cons (ps_set (i := 1) scLCode.nd rfl (Or.inl rfl) (pe_ifExp (pt_val (pe_callB call_isi (by rfl) B.isinstance (by decide +kernel) (pa_cons (pv 0) (pa_cons (pTy (t := "str") (by rfl) B2.str (by decide +kernel)) pa_nil)))) pe_int pe_int))
      (pss_cons (ps_for PassesOwn.never rfl (En.pi_or (pi_str (pv 0)) (pi_tup (pv 0))) (pg_name (i := 2) scLCode.nd rfl (Or.inl rfl))
        (pss_one (ps_if (pt_val (pe_callB call_isi (by rfl) B.isinstance (by decide +kernel) (pa_cons (pv 0) (pa_cons (pTy (t := "str") (by rfl) B2.str (by decide +kernel)) pa_nil))))
          (pss_one (ps_set (i := 1) scLCode.nd rfl (Or.inl rfl) (pe_op op_modN (pe_op op_add (pe_op op_mul pe_int (pv 1)) (pe_callB call_ord (by rfl) B2.ord (by decide +kernel) (pa_cons (pv 2) pa_nil))) pe_int)))
          (pss_one (ps_set (i := 1) scLCode.nd rfl (Or.inl rfl) (pe_op op_modN (pe_op op_add (pe_op op_mul pe_int (pv 1)) (pe_call G hr rfl D.g D.F.kp D.b .nil pass0 (pa_cons (pv 2) pa_nil))) pe_int))))))
      (pss_one (ps_ret (pe_ifExp (pt_val (pe_callB call_isi (by rfl) B.isinstance (by decide +kernel) (pa_cons (pv 0) (pa_cons (pTy (t := "str") (by rfl) B2.str (by decide +kernel)) pa_nil)))) (pv 1)
        (pe_op op_modN (pe_op op_add (pv 1) (pe_callB call_len_seq (by rfl) B.len PySem.boot_len (pa_cons (pv 0) pa_nil))) pe_int))))))), ?_⟩
    refine ⟨_, rfl, _, rfl, ?_⟩
    rw [rt_notup o]
    have id0 : Same H H := fun _ _ z => z
    have foldS : ∀ (st fa : Nat) (l : List Nat) (i n : Nat), l[i]? = some n → foldC st fa (l.take (i + 1)) = (fa * foldC st fa (l.take i) + n) % 4294967296 := fun st fa l i n hn => by
      rw [List.take_succ, hn]
      unfold foldC
      rw [List.foldl_append]
      rfl
    cases o with
    | non => exact iteYes rfl (by have := k H id0; cases d <;> exact this)
    | bl b => cases d <;> cases hp
    | int z =>
      refine iteNo rfl ⟨_, rfl, _, _, _, _, _, rfl, .ty _, ty, e1, _, rfl, iteYes rfl ?_⟩
      refine ⟨_, rfl, _, _, rfl, rfl, (by show (4294967296 : Int) ≠ 0; decide), ?_⟩
      have := k H id0
      have e : nI (cd d (.int z)) = .int (z.fmod 4294967296) := by
        have h1 : 0 ≤ z.fmod 4294967296 := Int.fmod_nonneg_of_pos z (by decide)
        have e0 : cd d (.int z) = (z.fmod 4294967296).toNat := by cases d <;> rfl
        rw [e0]
        show V.int (((z.fmod 4294967296).toNat : Nat) : Int) = _
        rw [Int.toNat_of_nonneg h1]
      rw [e] at this
      exact this
    | str z hz =>
      have k : ∀ H', Same H H' → Q (nI (foldC 17 33 z.cps.toList)) H' := fun H' sm => by
        have := k H' sm
        cases d <;> exact this
      refine iteNo rfl ⟨_, rfl, _, _, _, _, _, rfl, .ty _, ty, e1, _, rfl, iteNo rfl ⟨_, rfl, _, _, _, _, _, rfl, .ty _, ty, e3, _, rfl, iteYes rfl ?_⟩⟩
      refine .inl ⟨_, rfl, z, rfl, for_it (walk_str (z := z)) (fun i σ H' => (∃ v2, σ = [some (.str z), some (nI (foldC 17 33 (z.cps.toList.take i))), v2]) ∧ H' = H) ⟨⟨_, rfl⟩, rfl⟩ (fun _ _ _ _ _ => trivial) ?_ ?_⟩
      · rintro i x σ H2 H3 hi ⟨⟨v2, rfl⟩, rfl⟩ hy
        obtain ⟨rfl, c, hc, rfl⟩ := hy
        have hc2 : z.cps.toList[i]? = some c := by
          rw [Array.getElem?_toList]
          exact hc
        refine ⟨_, rfl, _, _, _, _, _, rfl, .ty _, ty, e3, _, rfl, iteYes rfl ?_⟩
        refine ⟨_, rfl, _, _, rfl, rfl, .inl ⟨by decide, by decide⟩, _, rfl, _, rfl, rfl, _, _, rfl, rfl, _, _, rfl, rfl, (by show (4294967296 : Int) ≠ 0; decide), ?_⟩
        refine ⟨⟨some (.str ⟨#[c]⟩), ?_⟩, rfl⟩
        rw [foldS 17 33 _ _ _ hc2]
        show [_, some (V.int (Int.fmod (33 * (foldC 17 33 (z.cps.toList.take i) : Nat) + (c : Nat)) 4294967296)), _] = _
        rw [fmod32 (n := 33 * foldC 17 33 (z.cps.toList.take i) + c) (by simp)]
      · rintro σ H2 ⟨⟨v2, rfl⟩, rfl⟩
        refine ⟨_, rfl, _, _, _, _, _, rfl, .ty _, ty, e3, _, rfl, iteYes rfl ⟨_, rfl, ?_⟩⟩
        have e : z.cps.toList.take z.cps.size = z.cps.toList := by rw [← Array.length_toList, List.take_length]
        rw [e]
        exact k _ id0
    | @tup a vs ts h r hl =>
      cases d with
      | zero => cases hp
      | succ d =>
        have hp : (decide (ts.length ≤ 6) && ts.all (pl d)) = true := hp
        rw [Bool.and_eq_true] at hp
        have hall := List.all_eq_true.mp hp.2
        have k : ∀ H', Same H H' → Q (nI ((foldC 41 1000003 (ts.map (cd d)) + ts.length) % 4294967296)) H' := k
        have G : FnOk P w K mg base CX0 (1 + (d + 1)) f fd ["key"] (spLCode K d) := G
        refine iteNo rfl ⟨_, rfl, _, _, _, _, _, rfl, .ty _, ty, e1, _, rfl, iteNo rfl ⟨_, rfl, _, _, _, _, _, rfl, .ty _, ty, e3, _, rfl, iteNo rfl ?_⟩⟩
        refine .inr ⟨_, rfl, a, rfl, ⟨_, SqT.of h⟩, for_it (walk_tup (K := K) (a := a) (xs := vs)) (fun i σ H' => (∃ v2, σ = [some (.ref a), some (nI (foldC 41 1000003 ((ts.map (cd d)).take i))), v2]) ∧ Same H H') ⟨⟨_, rfl⟩, id0⟩ (fun _ _ _ _ p => SqT.of (p.2 _ _ h)) ?_ ?_⟩
        · rintro i x σ H2 H3 hi ⟨⟨v2, rfl⟩, sm⟩ hy
          obtain ⟨rfl, hx⟩ := hy
          obtain ⟨t, ht, rt⟩ := r.get hx
          have ty2 : TyX K H3 (.ref a) (.type "tuple") := .base (.tup (sm _ _ h))
          refine ⟨_, rfl, _, _, _, _, _, rfl, .ty _, ty2, kit_ty (r := false) (by decide +kernel), _, rfl, iteNo rfl ?_⟩
          refine ⟨_, rfl, _, _, rfl, rfl, .inl ⟨by decide, by decide⟩, _, rfl, x, t, rfl, rt.same sm, hall t (List.mem_of_getElem? ht), fun H4 s4 => ?_⟩
          refine ⟨_, _, rfl, rfl, _, _, rfl, rfl, (by show (4294967296 : Int) ≠ 0; decide), ?_⟩
          refine ⟨⟨some x, ?_⟩, fun b o e => s4 _ _ (sm b o e)⟩
          have hc2 : (ts.map (cd d))[i]? = some (cd d t) := by rw [List.getElem?_map, ht]; rfl
          rw [foldS 41 1000003 _ _ _ hc2]
          show [_, some (V.int (Int.fmod (1000003 * (foldC 41 1000003 ((ts.map (cd d)).take i) : Nat) + (cd d t : Nat)) 4294967296)), _] = _
          rw [fmod32 (n := 1000003 * foldC 41 1000003 ((ts.map (cd d)).take i) + cd d t) (by simp)]
        · rintro σ H2 ⟨⟨v2, rfl⟩, sm⟩
          have ty2 : TyX K H2 (.ref a) (.type "tuple") := .base (.tup (sm _ _ h))
          refine ⟨_, rfl, _, _, _, _, _, rfl, .ty _, ty2, kit_ty (r := false) (by decide +kernel), _, rfl, iteNo rfl ?_⟩
          refine ⟨_, rfl, _, rfl, a, _, rfl, .inr (SqT.of (sm _ _ h)), _, _, rfl, rfl, _, _, rfl, rfl, (by show (4294967296 : Int) ≠ 0; decide), ?_⟩
          have e : (ts.map (cd d)).take vs.length = ts.map (cd d) := by
            rw [show vs.length = (ts.map (cd d)).length by rw [List.length_map, r.length], List.take_length]
          rw [e]
          have := k H2 sm
          rw [show nI ((foldC 41 1000003 (ts.map (cd d)) + ts.length) % 4294967296) = V.int (Int.fmod ((foldC 41 1000003 (ts.map (cd d)) : Nat) + (vs.length : Nat)) 4294967296) by rw [fmod32 (n := foldC 41 1000003 (ts.map (cd d)) + ts.length) (by rw [r.length]; simp)]] at this
          exact this
    | lst h => cases d <;> cases hp
    | dk h => cases d <;> cases hp
    | ins h b => cases d <;> cases hp
theorem ok_lcode {f : Addr} {fd : FuncData} (D : Df K mg "_law_code" "_law_code" sLCode ["key"] f fd) (B : Bl mg) (B2 : Bk mg) : ∀ d : Nat, FnOk P w K mg base CX0 (1 + d + 1) f fd ["key"] (spLCode K d) := by
  intro d
  induction d with
  | zero => exact lcode_step (d := 0) D B B2 ⟨fun _ _ _ _ z => False.elim z, fun _ _ _ _ _ _ _ _ _ _ _ _ _ z => False.elim z⟩
  | succ d ih => exact lcode_step D B B2 ih
end
end K01
set_option Elab.async false
set_option linter.all false
set_option maxRecDepth 100000
set_option maxHeartbeats 1000000
/-! Xs: in an except suite: isinstance(e, C), e.f, e an own error with one field -/
namespace Xo
open PySem PySem.Spec PyProof.Rows L2
section
variable {X : Cx} {a : Addr} {oe : Obj} {cls : Value} {d : Option Addr} {pn : List (Addr × Obj)}
theorem pinned {pins : List (Addr × Obj)} {σ : L2.St} {H : Hp} {s : Shared} {C dd : Addr} {fs : List (Str × V)} (I : Inv (X.suite a ((a, oe) :: pn)) pins σ H s) (hz : Zc (.ref C) (some dd) oe) (hf : ∃ vs, oe.data = .fields vs) (e : H dd = some (.xd fs)) :
    ∃ od mA, PySem.W.InstAt s.heap a oe C (some od) ∧ s.heap.get? dd = some od ∧ s.heap.Ns1 dd mA ∧ ∀ f, RelO (fs.lookup f) (mA f) := by
  obtain ⟨vs, q3⟩ := hf
  obtain ⟨mA, n1, r⟩ := (show ObjOk X.prog X.w H s.heap dd (.xd fs) from I.hok dd _ e)
  obtain ⟨od, ho, hl⟩ := lookIn_ns n1
  have q1 : s.heap.get? a = some oe := (I.pin (a, oe) (List.mem_append_left _ (List.mem_cons_self ..))).1
  exact ⟨od, mA, ⟨q1, hz.1, by unfold PySem.W.notCls; rw [q3] <;> rfl, by rw [hz.2]; exact ho⟩, ho, n1, r⟩
def rIsS (K : PySem.W.Frag) (a : Addr) (cls : Value) (d : Option Addr) : List V → Hp → VK → Prop := fun xs H Q => ∃ (C dd : Addr) (fs : List (Str × V)) (c : V) (cv : Value) (b : Bool), xs = [.ref a, c] ∧ cls = .ref C ∧ d = some dd ∧ H dd = some (.xd fs) ∧ ExcC K C ∧ ClsV c cv ∧ PySem.W.kitOne K (.ref C) cv = some b ∧ Q (.bl b) H
theorem call_isS (hz : Zc cls d oe) (hf : ∃ vs, oe.data = .fields vs) : CallR (X.suite a ((a, oe) :: pn)) (.builtin "isinstance") (rIsS X.K a cls d) := by
  intro pins s σ H xs us Q I r h
  obtain ⟨C, dd, fs, c, cv, b, rfl, rfl, rfl, e, T, hc, ek, q⟩ := h
  obtain ⟨u1, u2, rfl, r1, r2⟩ := vals2 r
  obtain rfl : u1 = Value.ref a := r1
  obtain ⟨od, mA, J, _⟩ := pinned I hz hf e
  cases hc.eq r2
  exact PySem.W.kia_one (PySem.W.xi_kit T) I.kIn J ek (fun z => nomatch z) fun tk => ⟨.bl b, H, I.tok tk, rfl, q⟩
def tXfS (K : PySem.W.Frag) (a : Addr) (cls : Value) (d : Option Addr) (f : Str) (te : TE) : TE := fun σ H Q => te σ H fun x H1 => ∃ (C dd : Addr) (fs : List (Str × V)) (v : V), x = .ref a ∧ cls = .ref C ∧ d = some dd ∧ H1 dd = some (.xd fs) ∧ XC K C ∧ PySem.W.findIn K (.ref C) f = some none ∧ fs.lookup f = some v ∧ Q v H1
theorem pe_xfS {e : Expr} {te : TE} {n : Str} {pos : Pos} (hz : Zc cls d oe) (hf : ∃ vs, oe.data = .fields vs) (he : PE (X.suite a ((a, oe) :: pn)) e te) (hb : attributeBase e n X.env (eval e X.env) = eval e X.env := by rfl) : PE (X.suite a ((a, oe) :: pn)) (.Attribute e n pos) (tXfS X.K a cls d n te) := by
  refine ⟨fun pins s σ H Q I h => ?_⟩
  refine attr_of hb (thn (he.run pins s σ H _ I h) fun u s1 ⟨x, H1, I1, rx, C, dd, fs, v, ex, ec, ed, xa, T, hno, hl, q⟩ => ?_)
  subst ex ec ed
  obtain rfl : u = Value.ref a := rx
  obtain ⟨od, mA, J, ho, n1, r⟩ := pinned I1 hz hf xa
  obtain ⟨od', ho', hl'⟩ := lookIn_ns n1
  rw [ho] at ho'
  cases ho'
  obtain ⟨u, hu, ru⟩ := RelO.some_of (v := v) (o := mA n) (by rw [← hl]; exact r n)
  exact HandSPX.exc_get I1.kIn J T.ga T.gg T.exC (PySem.W.findObj_own T.hd hno rfl (by rw [hl', hu])) (handed_of ru) ⟨v, H1, I1.tok _, ru, q⟩
end
end Xo
set_option Elab.async false
set_option linter.all false
set_option maxRecDepth 100000
/-! Gd0: f() of a def that runs where no repr is under way -/
namespace Gd0
open PySem PySem.Spec PyProof.Rows L2
theorem pe_callG0 {X : Cx} {k : Nat} {f : Addr} {fd : FuncData} {ps : List Str} {sp : Sp} {x : Str} {p pos : Pos} (F : Gd.FnG X.prog X.w X.K X.mg X.base k f fd ps sp) (hr : Room k X.A) (hgd : X.A.guards = some []) (hg : Gl X x) (hm : X.mg x = some (.ref f)) (hk : PySem.W.keepIn X.K (.ref f) = true)
    (hb : Binds X.K fd ps []) (hdb : (x == ("__debug__" : Str)) = false := by decide) : PE X (.Call (.Name x p) [] [] pos) (tCall sp [] C8.E0 tNil) := by
  refine ⟨fun pins s σ H Q I h => ?_⟩
  refine wpAny_Call_Name_kw (ld_glob I hg hm ?_ hdb)
  refine PySem.W.callWith_K0 (first := []) I.kIn hk ?_
  have q : sp [] H Q C8.E0 := h
  have hl : ([] : List Value).length = ps.length := by rw [← F.len _ _ _ _ q]; rfl
  have hbt : BindsTo s fd ⟨[], []⟩ (ps.zip []) := by
    have z := hb s [] I.kIn (by rw [List.append_nil]; exact hl)
    rwa [List.append_nil] at z
  refine wpAny_call (codeAny_mono (F.run X.A X.stack s H ⟨[], []⟩ [] [] Q C8.E0 hr hgd I.env0 hbt .nil q) fun r' s' hq => ?_)
  cases r' with
  | error e => exact (show False from hq).elim
  | ok fl =>
    cases fl with
    | ret u => exact I.after hq
    | next => exact False.elim hq
    | brk => exact False.elim hq
    | cont => exact False.elim hq
end Gd0
set_option Elab.async false
set_option linter.all false
set_option maxRecDepth 100000
set_option maxHeartbeats 2000000
namespace K01
open PySem L2 Xo Lm LamX
/-- a def of the text, its code object at c -/
structure Dc (K : PySem.W.Frag) (mg : Str → Option Value) (name : Str) (st : Stmt) (ps : List Str) (f c : Addr) (fd : FuncData) : Prop where
  ex : ∃ (oc : Value) (od : Option Addr) (kV doc pm : Value) (an : Option Addr) (ct : Value) (osl : Array (Option Value)), fd = PySem.W.fnOf name name (defArgs st) (defBody st) (defScope st) .none kV doc pm an (.ref c) ct ∧
    K.lookup f = some ⟨oc, od, .func fd, osl⟩ ∧ PySem.W.codeIn K (.ref c) name = true
  kp : PySem.W.keepIn K (.ref f) = true
  b : Binds K fd ps []
  g : mg name = some (.ref f)
/-- a def that calls what it got -/
structure Dz (K : PySem.W.Frag) (mg : Str → Option Value) (name : Str) (st : Stmt) (a : Str) (sd : Addr) : Prop where
  g : mg name = some (.ref sd)
  kp : PySem.W.keepIn K (.ref sd) = true
  ex : ∃ (oc : Value) (od : Option Addr) (dV kV doc pm : Value) (an : Option Addr) (cdv ct : Value) (osl : Array (Option Value)), K.lookup sd = some ⟨oc, od, .func (PySem.W.fnOf name name (defArgs st) (defBody st) (defScope st) dV kV doc pm an cdv ct), osl⟩ ∧
    PySem.W.codeIn K cdv name = true ∧ Binds K (PySem.W.fnOf name name (defArgs st) (defBody st) (defScope st) dV kV doc pm an cdv ct) [a] []
section
variable {P : Program} {w : World} {K : PySem.W.Frag} {mg : Str → Option Value} {base : Heap}
theorem okGc {name : Str} {st : Stmt} {f c : Addr} {fd : FuncData} {N ps : List Str} {k : Nat} {sp : Sp} (D : Dc K mg name st ps f c fd) (S : FnScope N ps (defScope st)) (len : ∀ vs H Q E, sp vs H Q E → vs.length = ps.length)
    (hbody : ∀ (A : Around) (outer : List Env) (s : Shared) (H : Hp) (vs : List V) (Q : VK) (E : L2.XK), Room k (A.deeper (PyProof.Rows.envOfC name (defScope st) s.heap.objs.size f (.ref c))) → (A.deeper (PyProof.Rows.envOfC name (defScope st) s.heap.objs.size f (.ref c))).guards = some [] → sp vs H Q E →
      ∃ t, PSs (cxOf C8.CX0 P w K mg base N name (defScope st) f (.ref c) A outer s H E).nox (defBody st) t ∧ t { nx := fun _ H' => Q .non H', rt := Q } (L2.start N vs) H) : Gd.FnG P w K mg base (k + 1) f fd ps sp := by
  obtain ⟨oc, od, kV, doc, pm, an, ct, osl, rfl, lk, hcd⟩ := D.ex
  refine ⟨len, fun A outer s H args us vs Q E hr hgd e0 hb r h => run_ofS lk hcd S hr e0 hb r (len _ _ _ _ h) fun hr2 => ?_⟩
  obtain ⟨t, ht, q⟩ := hbody A outer s H vs Q E hr2 hgd h
  exact ⟨t, ht.nox, q⟩
theorem passF {X : Cx} : Passes (L2.CX X.prog X.w) X (fun _ _ _ => False) := fun _ _ _ _ _ _ _ c => by
  obtain ⟨_, _, _, _, _, _, _, _, _, _, _, _, z⟩ := c
  exact z.elim
end
mutual
theorem RT.ext {K : PySem.W.Frag} {H H' : Hp} (s : ExtN H H') : ∀ {v : V} {t : PT}, RT K H v t → RT K H' v t
  | _, _, .non => .non
  | _, _, .bl b => .bl b
  | _, _, .int z => .int z
  | _, _, .str x h => .str x h
  | _, _, .tup h r hl => .tup (s _ _ h fun ps z => by cases z) (r.ext s) hl
  | _, _, .lst h => .lst (s _ _ h fun ps z => by cases z)
  | _, _, .dk h => .dk (s _ _ h fun ps z => by cases z)
  | _, _, .ins h b => .ins (s _ _ h fun ps z => by cases z) b
theorem RTs.ext {K : PySem.W.Frag} {H H' : Hp} (s : ExtN H H') : ∀ {vs : List V} {ts : List PT}, RTs K H vs ts → RTs K H' vs ts
  | _, _, .nil => .nil
  | _, _, .cons h r => .cons (h.ext s) (r.ext s)
end
theorem Src.ext {H H1 : Hp} {s : Addr} {n : Nat} (h : Src H s n) (a : ExtN H H1) : Src H1 s n := by
  obtain ⟨l, c, t, h1, h2⟩ := h
  exact ⟨l, c, t, a _ _ h1 (fun ps z => by cases z), h2⟩
theorem tabS {H H' : Hp} {s : Addr} {n : Nat} {TT : List (Addr × Str)} (hs : Src H s n) (h : Tabs TT H) (kp : KeptS H H' s) : Tabs TT H' := by
  obtain ⟨l, c0, t, e0, _⟩ := hs
  intro p hp
  obtain ⟨ps, e, tr, f⟩ := h p hp
  refine ⟨ps, kp _ _ e (ne_of e e0 (by intro z; cases z)), tr, fun pos cv hc => ?_⟩
  obtain ⟨c, rfl, hc2⟩ := f pos cv hc
  exact ⟨c, rfl, kp _ _ hc2 (ne_of hc2 e0 (by intro z; cases z))⟩
theorem tabs_updL {H : Hp} {TT : List (Addr × Str)} {a : Addr} {o : HO} {xs : List V} (h : Tabs TT H) (ha : H a = some (.lst xs)) : Tabs TT (upd H a o) := by
  intro p hp
  obtain ⟨ps, e, tr, f⟩ := h p hp
  refine ⟨ps, by rw [upd_ne (ne_of e ha (by intro z; cases z))]; exact e, tr, fun pos cv hc => ?_⟩
  obtain ⟨c, rfl, hc2⟩ := f pos cv hc
  exact ⟨c, rfl, by rw [upd_ne (ne_of hc2 ha (by intro z; cases z))]; exact hc2⟩
theorem seqN {K : PySem.W.Frag} {H H' : Hp} {a : Addr} {xs : List V} (e : ExtN H H') (h : SqL K H a xs) : SqL K H' a xs := by
  rcases h with (h | ⟨o, h⟩) | h
  · exact .inl (.inl (e _ _ h fun ps z => by cases z))
  · exact .inl (.inr ⟨o, e _ _ h fun ps z => by cases z⟩)
  · exact .inr h
theorem dp_bools {K : PySem.W.Frag} {H : Hp} : ∀ bs : List Bool, DpAll K H (bs.map V.bl) (bs.map PyData.bool)
  | [] => .nil
  | b :: bs => .cons (.bl b) (dp_bools bs)
theorem cut_ints {ns : List Int} {lo hi : Option Int} {x : V} (h : x ∈ cutV (ns.map V.int) lo hi) : ∃ z, x = V.int z := by
  unfold cutV at h
  obtain ⟨z, _, rfl⟩ := List.mem_map.mp (List.mem_of_mem_drop (List.mem_of_mem_take h))
  exact ⟨z, rfl⟩
/-- all but the source and the tables stays -/
def KN (H H' : Hp) (s : Addr) : Prop := ∀ b o, H b = some o → b ≠ s → (∀ ps, o ≠ .tbl ps) → H' b = some o
theorem KN.trans {H H1 H2 : Hp} {s : Addr} (a : KN H H1 s) (b : KN H1 H2 s) : KN H H2 s := fun c o e h n => b c o (a c o e h n) h n
theorem KN.ofK {H H1 : Hp} {s : Addr} (a : KeptS H H1 s) : KN H H1 s := fun c o e h _ => a c o e h
theorem KN.ofE {H H1 : Hp} {s : Addr} (a : ExtN H H1) : KN H H1 s := fun c o e _ n => a c o e n
theorem KN.ofS {H H1 : Hp} {s : Addr} (a : Same H H1) : KN H H1 s := fun c o e _ _ => a c o e
theorem KN.ext {H0 H H1 : Hp} {s : Addr} (e : ExtN H0 H) (hs : H s = none) (k : KN H H1 s) : ExtN H0 H1 := fun b o h n => k b o (e b o h n) (ne_of_none (e b o h n) hs) n
def forBody (s : Stmt) : List Stmt := match s with
  | .For _ _ b _ _ => b
  | _ => []
abbrev qOf (n : Str) : Str := n ++ ".<locals>." ++ "<lambda>"
end K01
set_option Elab.async false
set_option linter.all false
set_option maxRecDepth 100000
set_option maxHeartbeats 2000000
namespace K01
open PySem L2 Xo Lm LamX
abbrev sIsKey : Stmt := top 31
abbrev sNeedKey : Stmt := top 32
/-- no built-in kind is a Key -/
structure NotKey (K : PySem.W.Frag) (CK : Addr) : Prop where
  n : PySem.W.kitOne K (.type "NoneType") (.ref CK) = some false
  b : PySem.W.kitOne K (.type "bool") (.ref CK) = some false
  i : PySem.W.kitOne K (.type "int") (.ref CK) = some false
  s : PySem.W.kitOne K (.type "str") (.ref CK) = some false
  t : PySem.W.kitOne K (.type "tuple") (.ref CK) = some false
  l : PySem.W.kitOne K (.type "list") (.ref CK) = some false
  d : PySem.W.kitOne K (.type "dict") (.ref CK) = some false
  g : PySem.W.nsIn K mainGlobals "Key" = some (some (.ref CK))
theorem rt_key {K : PySem.W.Frag} {CK : Addr} {H : Hp} {v : V} {t : PT} (h : RT K H v t) (N : NotKey K CK) : ∃ tv : Value, TyX K H v tv ∧ PySem.W.kitOne K tv (.ref CK) = some false := by
  cases h with
  | non => exact ⟨_, .base .non, N.n⟩
  | bl b => exact ⟨_, .base (.bl _), N.b⟩
  | int z => exact ⟨_, .base (.int _), N.i⟩
  | str s h => exact ⟨_, .base (.str _), N.s⟩
  | tup h r hl => exact ⟨_, .base (.tup h), N.t⟩
  | lst h => exact ⟨_, .base (.lst h), N.l⟩
  | dk h => exact ⟨_, .base (.dK h), N.d⟩
  | ins h b => exact ⟨_, .base (.ins h b.cl b.ha b.hn b.htk b.hm), b.kk _ N.g⟩
section
variable {P : Program} {w : World} {K : PySem.W.Frag} {mg : Str → Option Value} {base : Heap}
def spIsKey (K : PySem.W.Frag) : Sp := fun vs H Q _ => ∃ (v : V) (t : PT), vs = [v] ∧ RT K H v t ∧ ∀ H', Same H H' → Q (.bl t.plain) H'
theorem scIsKey : FnScope ["thing"] ["thing"] (defScope sIsKey) := ⟨rfl, rfl, rfl, by decide +kernel, rfl, by decide +kernel, by decide +kernel⟩
theorem ok_isKey {f f1 CK : Addr} {fd fd1 : FuncData} (D : Df K mg "is_key" "is_key" sIsKey ["thing"] f fd) (B : Bl mg) (gK : mg "Key" = some (.ref CK)) (NK : NotKey K CK) (D1 : Df K mg "is_plain" "is_plain" sPlain ["thing"] f1 fd1) (G1 : FnOk P w K mg base CX0 7 f1 fd1 ["thing"] (spPlain K)) : FnOk P w K mg base CX0 8 f fd ["thing"] (spIsKey K) := by
  refine D.F.ok scIsKey (fun vs H Q E h => ?_) (fun cdv A outer s H vs Q E hr h => ?_)
  · obtain ⟨v, t, rfl, _⟩ := h
    rfl
  · obtain ⟨v, t, rfl, o, k⟩ := h
    obtain ⟨tv, ty, e⟩ := rt_key o NK
    refine ⟨_, pss_one (ps_ret (pe_or (pe_callB call_isi (by rfl) B.isinstance (by decide +kernel) (pa_cons (pv 0) (pa_cons (pe_glob (v := .ref CK) rfl gK rfl) pa_nil))) (pe_one (pe_call G1 hr rfl D1.g D1.F.kp D1.b .nil pass0 (pa_cons (pv 0) pa_nil))))), ?_⟩
    exact ⟨_, rfl, _, _, _, _, _, rfl, .own _, ty, e, _, rfl, iteNo rfl ⟨_, rfl, _, _, rfl, o, k⟩⟩
def spNeedKey (K : PySem.W.Frag) (C : Addr) : Sp := fun vs H Q E => ∃ (v : V) (t : PT), vs = [v] ∧ RT K H v t ∧ (t.plain = true → ∀ H', Same H H' → Q .non H') ∧ (t.plain = false → ∀ H', Same H H' → OutE C "reason" H' E)
theorem scNeedKey : FnScope ["key"] ["key"] (defScope sNeedKey) := ⟨rfl, rfl, rfl, by decide +kernel, rfl, by decide +kernel, by decide +kernel⟩
theorem ok_needKey {f f1 C : Addr} {fd fd1 : FuncData} (D : Df K mg "need_key" "need_key" sNeedKey ["key"] f fd) (D1 : Df K mg "is_key" "is_key" sIsKey ["thing"] f1 fd1) (G1 : FnOk P w K mg base CX0 8 f1 fd1 ["thing"] (spIsKey K)) (x : XK P w K mg base "BadKey" C "reason") : FnOk P w K mg base (L2.CX P w) 9 f fd ["key"] (spNeedKey K C) := by
  refine D.F.okX scNeedKey (fun vs H Q E h => ?_) (fun cdv A outer s H vs Q E hr h => ?_)
  · obtain ⟨n, t, rfl, _⟩ := h
    rfl
  · obtain ⟨v, t, rfl, o, k1, k2⟩ := h
    refine ⟨_, pss_one (ps_if (pt_not (pt_val (pe_call G1 hr rfl D1.g D1.F.kp D1.b .nil pass0 (pa_cons (pv 0) pa_nil)))) (pss_one (ps_raise rfl (takes_of rfl rfl rfl rfl) (pmk_x (XK.to x) (hr.mono (by decide)) rfl x.g (pa_cons pe_str pa_nil)))) pss_nil), ?_⟩
    refine ⟨_, rfl, _, _, rfl, o, fun H' sm => ⟨_, rfl, ?_⟩⟩
    cases hc : t.plain with
    | false => exact iteYes rfl ⟨_, rfl, fun d hd => k2 hc H' sm d _ hd⟩
    | true => exact iteNo rfl (k1 hc H' sm)
end
end K01
set_option Elab.async false
set_option linter.all false
set_option maxRecDepth 100000
/-! Rp: data that may be shown: how long its text is -/
namespace Rp
open PySem PySem.Spec PyProof.Rows L2
theorem piled_le {b : Nat} : ∀ ts : List Str, (∀ t ∈ ts, t.length ≤ b) → piled ts ≤ (b + 2) * ts.length
  | [], _ => by rw [piled_nil]; exact Nat.zero_le _
  | t :: r, h => by
    have ih := piled_le r fun u hu => h u (List.mem_cons_of_mem _ hu)
    have h1 := h t (List.mem_cons_self ..)
    rw [piled_cons, List.length_cons, Nat.mul_succ]
    omega
theorem listText_le : ∀ ts : List Str, (listText ts).length ≤ piled ts + 2
  | [] => by decide
  | t :: r => by
    have h := textFrom_length_pos r 1 (("[" : Str) ++ (if (0 : Nat) > 0 then ", " else "" : String) ++ t) (Nat.succ_pos 0)
    have e : ((("[" : Str) ++ (if (0 : Nat) > 0 then ", " else "" : String) ++ t)).length = 1 + t.length := by
      rw [strLen_append, strLen_append]; rfl
    have hX : (listText (t :: r)).length = (textFrom 0 "[" (t :: r)).length + 1 := by
      show (textFrom 0 "[" (t :: r) ++ "]").length = _
      rw [strLen_append]; rfl
    have hY : (textFrom 0 "[" (t :: r)).length = (textFrom 1 (("[" : Str) ++ (if (0 : Nat) > 0 then ", " else "" : String) ++ t) r).length := rfl
    rw [hX, hY, h, e, piled_cons]; omega
theorem tupleText_le (ts : List Str) : (tupleText ts).length ≤ piled ts + 3 := by
  unfold tupleText
  rw [strLen_append, strLen_append]
  have e1 : ((("(" : String) : Str)).length = 1 := rfl
  have e3 : (((if ts.length == 1 then ",)" else ")" : String) : Str)).length ≤ 2 := by split <;> decide
  rw [e1]
  by_cases h : ts = []
  · subst h; have : (Str.join ", " ([] : List Str)).length = 0 := rfl
    omega
  · have := join_length_add ts h
    omega
/-- may be shown: at most b signs, nested e deep -/
structure Sh (b e : Nat) (d : PyData) : Prop where
  sh : d.showable = true
  nd : d.hasDict = false
  dp : d.depth ≤ e
  ln : d.shown.length ≤ b
theorem Sh.mono {b e b' e' : Nat} {d : PyData} (h : Sh b e d) (hb : b ≤ b') (he : e ≤ e') : Sh b' e' d := ⟨h.sh, h.nd, Nat.le_trans h.dp he, Nat.le_trans h.ln hb⟩
theorem ofString_len (s : String) : (Str.ofString s).length = s.toList.length := by
  have e := signs_ofString s
  have := congrArg List.length e
  rw [List.length_map, Array.length_toList] at this
  exact this
theorem digits_le {n k : Nat} (hk : 1 ≤ k) (h : n < 10 ^ k) : (Nat.toDigits 10 n).length ≤ k := by
  have := digitsCore_len_pow 10 (by decide) k (n + 1) n [] hk h
  simpa [Nat.toDigits] using this
theorem int_len {z : Int} {k : Nat} (hk : 1 ≤ k) (h : z.natAbs < 10 ^ k) : (Str.ofString (toString z)).length ≤ k + 1 := by
  rw [ofString_len]
  cases z with
  | ofNat m =>
    have e : (toString (Int.ofNat m)).toList = Nat.toDigits 10 m := by
      show (Nat.repr m).toList = _
      rw [Nat.toList_repr]
    rw [e]
    have := digits_le (n := m) hk h
    omega
  | negSucc m =>
    have e : (toString (Int.negSucc m)).toList = '-' :: Nat.toDigits 10 (m + 1) := by
      show ("-" ++ Nat.repr (m + 1)).toList = _
      rw [String.toList_append, Nat.toList_repr]
      rfl
    rw [e]
    have := digits_le (n := m + 1) hk h
    show (Nat.toDigits 10 (m + 1)).length + 1 ≤ _
    omega
theorem log_lt {n k : Nat} (hk : k ≤ 400) (h : n < 10 ^ k) : n.log2 < 1920 := by
  by_cases h0 : n = 0
  · subst h0; decide
  · refine (Nat.log2_lt h0).mpr (Nat.lt_of_lt_of_le h ?_)
    refine Nat.le_trans (Nat.pow_le_pow_left (show 10 ≤ 2 ^ 4 by decide) k) ?_
    rw [← Nat.pow_mul]
    exact Nat.pow_le_pow_right (by decide) (by omega)
theorem Sh.int {z : Int} {k : Nat} (hk : 1 ≤ k) (hk2 : k ≤ 400) (h : z.natAbs < 10 ^ k) : Sh (k + 1) 0 (.int z) := by
  refine ⟨?_, by simp only [PyData.hasDict], by simp only [PyData.depth]; exact Nat.le_refl _, ?_⟩
  · simp only [PyData.showable]
    exact decide_eq_true (log_lt hk2 h)
  · simp only [PyData.shown]
    exact int_len hk h
theorem Sh.none : Sh 4 0 .none := ⟨by simp only [PyData.showable], by simp only [PyData.hasDict], by simp only [PyData.depth]; exact Nat.le_refl _, by simp only [PyData.shown]; decide⟩
theorem Sh.bool {b : Bool} : Sh 5 0 (.bool b) := ⟨by simp only [PyData.showable], by simp only [PyData.hasDict], by simp only [PyData.depth]; exact Nat.le_refl _, by simp only [PyData.shown]; cases b <;> decide⟩
theorem all_sh {b e : Nat} : ∀ xs : List PyData, (∀ x ∈ xs, Sh b e x) → PyData.showableAll xs = true ∧ PyData.hasDictAll xs = false ∧ PyData.depthAll xs ≤ e ∧ (∀ t ∈ PyData.shownAll xs, t.length ≤ b) ∧ (PyData.shownAll xs).length = xs.length
  | [], _ => ⟨by simp only [PyData.showableAll], by simp only [PyData.hasDictAll], by simp only [PyData.depthAll]; exact Nat.zero_le _, by simp only [PyData.shownAll]; exact (fun t ht => absurd ht List.not_mem_nil), by simp only [PyData.shownAll, List.length_nil]⟩
  | x :: xs, h => by
    have hx := h x (List.mem_cons_self ..)
    obtain ⟨h1, h2, h3, h4, h5⟩ := all_sh xs fun u hu => h u (List.mem_cons_of_mem _ hu)
    refine ⟨?_, ?_, ?_, ?_, ?_⟩
    · simp only [PyData.showableAll, hx.sh, h1, Bool.and_self]
    · simp only [PyData.hasDictAll, hx.nd, h2, Bool.or_self]
    · simp only [PyData.depthAll]
      exact Nat.max_le.mpr ⟨hx.dp, h3⟩
    · simp only [PyData.shownAll]
      intro t ht
      rcases List.mem_cons.mp ht with rfl | ht
      · exact hx.ln
      · exact h4 t ht
    · simp only [PyData.shownAll, List.length_cons, h5]
theorem Sh.list {b e : Nat} {xs : List PyData} (h : ∀ x ∈ xs, Sh b e x) : Sh ((b + 2) * xs.length + 2) (e + 1) (.list xs) := by
  obtain ⟨h1, h2, h3, h4, h5⟩ := all_sh xs h
  refine ⟨by simp only [PyData.showable]; exact h1, by simp only [PyData.hasDict]; exact h2, by simp only [PyData.depth]; omega, ?_⟩
  simp only [PyData.shown]
  have := listText_le (PyData.shownAll xs)
  have := piled_le _ h4
  rw [h5] at this
  omega
theorem Sh.tuple {b e : Nat} {xs : List PyData} (h : ∀ x ∈ xs, Sh b e x) : Sh ((b + 2) * xs.length + 3) (e + 1) (.tuple xs) := by
  obtain ⟨h1, h2, h3, h4, h5⟩ := all_sh xs h
  refine ⟨by simp only [PyData.showable]; exact h1, by simp only [PyData.hasDict]; exact h2, by simp only [PyData.depth]; omega, ?_⟩
  simp only [PyData.shown]
  have := tupleText_le (PyData.shownAll xs)
  have := piled_le _ h4
  rw [h5] at this
  omega
theorem Sh.ints {k : Nat} (hk : 1 ≤ k) (hk2 : k ≤ 400) {zs : List Int} (h : ∀ z ∈ zs, z.natAbs < 10 ^ k) : ∀ d ∈ zs.map PyData.int, Sh (k + 1) 0 d := by
  intro d hd
  obtain ⟨z, hz, rfl⟩ := List.mem_map.mp hd
  exact Sh.int hk hk2 (h z hz)
/-- data that may be shown -/
theorem Sh.shw {b e : Nat} {d : PyData} (h : Sh b e d) (he : e ≤ 60) (hb : b ≤ sizeLine) : d.showable = true ∧ d.hasDict = false ∧ d.depth ≤ 60 ∧ d.shown.length ≤ sizeLine := ⟨h.sh, h.nd, Nat.le_trans h.dp he, Nat.le_trans h.ln hb⟩
end Rp
set_option Elab.async false
set_option linter.all false
set_option maxRecDepth 100000
set_option maxHeartbeats 1000000
/-! Gr: repr of any data -/
namespace Gd
open PySem PySem.Spec PyProof.Rows L2 LamX
def rReprD (K : PySem.W.Frag) : List V → Hp → VK → Prop := fun xs H Q => ∃ (v : V) (d : PyData), xs = [v] ∧ Dp K H v d ∧ d.showable = true ∧ d.hasDict = false ∧ d.depth ≤ 60 ∧ d.shown.length ≤ sizeLine ∧ Q (.str d.shown) H
theorem call_reprD {X : Cx} (hgd : X.A.guards = some []) (hu : X.A.units + 64 < cLine) : CallR X (.builtin "repr") (rReprD X.K) := by
  intro pins s σ H xs us Q I r h
  obtain ⟨v, d, rfl, hd, hs, hk, hdp, hz, q⟩ := h
  obtain ⟨u, rfl, ru⟩ := r.one
  obtain ⟨as, rd⟩ := Dp.reads I d _ _ hd ru
  have byRef : ∀ a : Addr, v = .ref a → wpAny (model X.prog X.w) X.A (call (.builtin "repr") [u]) (EP X pins σ Q) X.xe s := fun a e => by
    subst e
    obtain rfl : u = Value.ref a := ru
    exact repr_of_reads' rd hs (fun z => by rw [hk] at z; cases z) hgd (by omega) (fun b o e => e) (fun h' u tk k => ⟨.str d.shown, H, I.kept (t' := tk) k, ⟨u, rfl⟩, q⟩) hz
  cases hd with
  | non =>
    obtain rfl : u = Value.none := ru
    simp only [PyData.shown] at q
    exact PySem.P.repr_of_none ⟨.str _, H, I.tok _, ⟨_, rfl⟩, q⟩
  | bl b =>
    obtain rfl : u = Value.bool b := ru
    simp only [PyData.shown] at q
    exact PySem.P.repr_of_bool ⟨.str _, H, I.tok _, ⟨_, rfl⟩, q⟩
  | int i =>
    obtain ⟨t, rfl⟩ := ru
    simp only [PyData.shown] at q
    simp only [PyData.showable] at hs
    exact PySem.P.repr_of_int (of_decide_eq_true hs) ⟨.str _, H, I.tok _, ⟨_, rfl⟩, q⟩
  | str x =>
    obtain ⟨t, rfl⟩ := ru
    simp only [PyData.shown] at q hz
    exact PySem.P.repr_of_str ⟨.str _, H, I.tok _, ⟨_, rfl⟩, q⟩ hz
  | lst h1 h2 => exact byRef _ rfl
  | tup h1 h2 => exact byRef _ rfl
end Gd
set_option Elab.async false
set_option linter.all false
set_option maxRecDepth 100000
set_option maxHeartbeats 4000000
namespace K01
open PySem L2 Xo Lm LamX
abbrev sRefd : Stmt := top 41
abbrev sRight : Stmt := top 42
abbrev NRE : List Str := ["call", "e"]
theorem scRefd : FnScope NRE ["call"] (defScope sRefd) := ⟨rfl, rfl, rfl, by decide +kernel, rfl, by decide +kernel, by decide +kernel⟩
/-- a BadKey has come -/
structure Bad (K : PySem.W.Frag) (CK CT : Addr) : Prop where
  ex : PySem.W.exmOne K (.ref CK) (.ref CT) = some true
  ec : ExcC K CK
  k1 : PySem.W.kitOne K (.ref CK) (.ref CK) = some true
  kv : PySem.W.kitOne K (.ref CK) (.type "ValueError") = some true
def RefE (CK : Addr) (Q : VK) : L2.XK := fun cls d H' => ∃ (dd : Addr) (fs : List (Str × V)), cls = .ref CK ∧ d = some dd ∧ H' dd = some (.xd fs) ∧ Q (.bl true) H'
def TTref (CK : Addr) : (L2.XK → Hp → VK → Prop) → Hp → VK → Prop := fun tl H Q => tl (RefE CK Q) H fun _ H' => Q (.bl false) H'
theorem ref_gives {X : Cx} {g CK CT : Addr} {cdg : Value} {q : Str} (gT : X.mg "TableError" = some (.ref CT)) (gK : X.mg "BadKey" = some (.ref CK)) (is : X.mg "isinstance" = none) (ve : X.mg "ValueError" = none) (Bd : Bad X.K CK CT) :
    Gives X NRE "_law_refused" (defScope sRefd) g cdg (defBody sRefd) "call" q (TTref CK) := by
  intro f c' s H Q tl act hc h
  have nd : NRE.Nodup := by decide +kernel
  refine ⟨_, pss_cons (ps_try_as (X := (gCx X NRE "_law_refused" (defScope sRefd) g cdg s H).nox) (i := 1) (c := .ref CT) (tb := fun W D σ H => ∃ Ech : L2.XK, σ[0]? = some (some (.ref f)) ∧ H c' = some (CodeO c' q) ∧ (∀ cls d H', Ech cls d H' → W cls d σ H') ∧ tl Ech H fun _ H' => D.nx σ H') rfl rfl nd rfl rfl ⟨rfl, by decide, .inl gT⟩ LamX.takes0 (fun W pn xe tk _ => ?_)
      (fun a oe cls d pn hz hf => pss_one (ps_ret (pe_and (pe_callB (Xo.call_isS hz hf) (by rfl) is (by decide +kernel) (pa_cons (pv 1) (pa_cons (pe_glob (v := .ref CK) rfl gK rfl) pa_nil))) (pe_one (pe_callB (Xo.call_isS hz hf) (by rfl) is (by decide +kernel) (pa_cons (pv 1) (pa_cons (pe_bltn (v := .ty "ValueError") (u := .type "ValueError") rfl ve (by decide +kernel) rfl) pa_nil))))))))
    (pss_one (ps_ret pe_bl)), ?_⟩
  · refine ⟨fun pins s' σ H' D I h' => ?_⟩
    obtain ⟨Ech, h1, h2, h3, h4⟩ := h'
    exact (pss_one (ps_expr (act W pn xe Ech _ _ tk))).run pins s' σ H' D I ⟨h1, h2, h3, h4⟩
  · refine ⟨RefE CK Q, rfl, hc, fun cls d H' hE => ?_, h⟩
    obtain ⟨dd, fs, rfl, rfl, hd, k⟩ := hE
    refine ⟨true, Bd.ex, fun _ a ha => ?_, fun z => nomatch z⟩
    exact ⟨_, rfl, CK, dd, fs, _, _, _, rfl, rfl, rfl, hd, Bd.ec, .own _, Bd.k1, _, rfl, iteYes rfl ⟨_, rfl, CK, dd, fs, _, _, _, rfl, rfl, rfl, hd, Bd.ec, .ty _, Bd.kv, k⟩⟩
abbrev tabs (P1 : Addr) : List (Addr × Str) := [(P1, qOf "_law_right")]
abbrev NRI : List Str := ["thing", "due", "is_refused"]
theorem scRight : FnScope NRI ["thing"] (defScope sRight) := ⟨rfl, rfl, rfl, by decide +kernel, rfl, by decide +kernel, by decide +kernel⟩
def bb (b c : Bool) : PyData := .list [.bool b, .bool c]
theorem bb_sh (b c : Bool) : (bb b c).showable = true ∧ (bb b c).hasDict = false ∧ (bb b c).depth ≤ 60 ∧ (bb b c).shown.length ≤ sizeLine := by
  cases b <;> cases c <;> decide +kernel
section
variable {P : Program} {w : World} {K : PySem.W.Frag} {mg : Str → Option Value} {base : Heap}
def spRight (K : PySem.W.Frag) (P1 : Addr) : Sp := fun vs H Q _ => ∃ (v : V) (t : PT), vs = [v] ∧ RT K H v t ∧ Tabs (tabs P1) H ∧ ∀ H', ExtN H H' → Tabs (tabs P1) H' → Q (.bl true) H'
theorem ok_right {f cA P1 gs fp fq fi fl fc fk fo CK CT : Addr} {fd fdp fdq fdi fdl fdc fdk fdo : FuncData} (D : Dc K mg "_law_right" sRight ["thing"] f cA fd) (B : Bl mg) (ve : mg "ValueError" = none) (gT : mg "TableError" = some (.ref CT)) (gK : mg "BadKey" = some (.ref CK)) (Bd : Bad K CK CT) (S : Dz K mg "_law_refused" sRefd "call" gs) (TB : TabB base mg cA P1)
    (Dp0 : Df K mg "is_plain" "is_plain" sPlain ["thing"] fp fdp) (Gp : FnOk P w K mg base CX0 7 fp fdp ["thing"] (spPlain K)) (Dq : Df K mg "is_key" "is_key" sIsKey ["thing"] fq fdq) (Gq : FnOk P w K mg base CX0 8 fq fdq ["thing"] (spIsKey K))
    (Di : Df K mg "is_code" "is_code" sCode ["thing"] fi fdi) (Gi : FnOk P w K mg base CX0 3 fi fdi ["thing"] (spCode K)) (Dl : Df K mg "_law_plain" "_law_plain" sLPlain ["thing", "depth"] fl fdl) (Gl0 : FnOk P w K mg base CX0 5 fl fdl ["thing", "depth"] (spLPlain K 3))
    (Do : Df K mg "_law_code" "_law_code" sLCode ["key"] fo fdo) (Go : FnOk P w K mg base CX0 5 fo fdo ["key"] (spLCode K 3))
    (Dcd : Df K mg "code_of" "code_of" sCodeOf ["key"] fc fdc) (Gc : FnOk P w K mg base (L2.CX P w) 8 fc fdc ["key"] (spCodeOf K CK)) (Dk : Df K mg "need_key" "need_key" sNeedKey ["key"] fk fdk) (Gk : FnOk P w K mg base (L2.CX P w) 9 fk fdk ["key"] (spNeedKey K CK)) : Gd.FnG P w K mg base 12 f fd ["thing"] (spRight K P1) := by
  obtain ⟨oc, od, dV, kV, doc, pmm, an, cdv, ct, osl, lk, hcg, hb⟩ := S.ex
  refine okGc D scRight (fun vs H Q E h => ?_) (fun A outer s H vs Q E hr hgd h => ?_)
  · obtain ⟨v, t, rfl, _⟩ := h
    rfl
  · obtain ⟨v, t, rfl, rt, hT, k⟩ := h
    have hu64 := hr.units
    have hmT : (P1, qOf "_law_right") ∈ tabs P1 := List.mem_cons_self ..
    have huT : ∀ p ∈ tabs P1, p.1 = P1 → p.2 = qOf "_law_right" := fun p hp e => by rw [List.mem_singleton.mp hp]
    refine ⟨_, pss_cons (ps_set (i := 1) scRight.nd rfl (Or.inl rfl) (pe_call Gl0 (hr.mono (by decide)) rfl Dl.g Dl.F.kp Dl.b .nil pass0 (pa_cons (pv 0) (pa_cons pe_int pa_nil))))
      (pss_cons (ps_if (pt_cmpR op_ne (pe_callB (Gd.call_repr hgd hu64) (by rfl) B.repr (by decide +kernel) (pa_cons (pe_lst (pa_cons (pe_call Gp (hr.mono (by decide)) rfl Dp0.g Dp0.F.kp Dp0.b .nil pass0 (pa_cons (pv 0) pa_nil)) (pa_cons (pe_call Gq (hr.mono (by decide)) rfl Dq.g Dq.F.kp Dq.b .nil pass0 (pa_cons (pv 0) pa_nil)) pa_nil))) pa_nil))
          (pe_callB (Gd.call_repr hgd hu64) (by rfl) B.repr (by decide +kernel) (pa_cons (pe_lst (pa_cons (pv 1) (pa_cons (pv 1) pa_nil))) pa_nil)) (nomark _)) (pss_one (ps_ret pe_bl)) pss_nil)
      (pss_cons (ps_if (pt_val (pv 1)) (pss_one (ps_ret (pe_and (pe_cmpR op_eq (pe_call (E := fun _ _ _ => False) Gc (hr.mono (by decide)) rfl Dcd.g Dcd.F.kp Dcd.b .nil passF (pa_cons (pv 0) pa_nil)) (pe_call Go (hr.mono (by decide)) rfl Do.g Do.F.kp Do.b .nil pass0 (pa_cons (pv 0) pa_nil)) (nomark _))
          (pe_and (pe_cmp (pc_isN (pe_call (E := fun _ _ _ => False) Gk (hr.mono (by decide)) rfl Dk.g Dk.F.kp Dk.b .nil passF (pa_cons (pv 0) pa_nil)))) (pe_one (pe_cmp (Cm.pc_isT (pe_call Gi (hr.mono (by decide)) rfl Di.g Di.F.kp Di.b .nil pass0 (pa_cons (pe_call (E := fun _ _ _ => False) Gc (hr.mono (by decide)) rfl Dcd.g Dcd.F.kp Dcd.b .nil passF (pa_cons (pv 0) pa_nil)) pa_nil))))))))) pss_nil)
      (pss_cons (ps_set (i := 2) scRight.nd rfl (Or.inl rfl) (pe_lamD (k := 9) (T := tabs P1) (own := []) (t := fun E => tCall (spCodeOf K CK) [] E (tCons (tVar 0) tNil)) rfl S.g S.kp lk hcg hb scRefd rfl (Or.inl rfl) (ref_gives gT gK B.isinstance ve Bd) (hr.mono (by decide)) (lm_by (N := NRI) (sc := defScope sRight) (by decide +kernel))
          (fun pins σ H s E Q I hT h => lm_make0 I TB rfl hmT huT hT (lm_by (N := NRI) (sc := defScope sRight) (by decide +kernel)) rfl (fun _ _ _ _ _ _ => rfl) h) (fun A outer s H E f c' hr2 => pe_call (E := E) Gc (hr2.mono (by decide)) rfl Dcd.g Dcd.F.kp Dcd.b .nil (passes_call (takes_of rfl rfl rfl rfl) fun _ _ _ _ z => z) (pa_cons (pv 0) pa_nil))))
      (pss_one (ps_ret (pe_and (pv 2) (pe_one (pe_lamD (k := 9) (T := tabs P1) (own := []) (t := fun E => tCall (spNeedKey K CK) [] E (tCons (tVar 0) tNil)) rfl S.g S.kp lk hcg hb scRefd rfl (Or.inl rfl) (ref_gives gT gK B.isinstance ve Bd) (hr.mono (by decide)) (lm_by (N := NRI) (sc := defScope sRight) (by decide +kernel))
          (fun pins σ H s E Q I hT h => lm_make0 I TB rfl hmT huT hT (lm_by (N := NRI) (sc := defScope sRight) (by decide +kernel)) rfl (fun _ _ _ _ _ _ => rfl) h) (fun A outer s H E f c' hr2 => pe_call (E := E) Gk (hr2.mono (by decide)) rfl Dk.g Dk.F.kp Dk.b .nil (passes_call (takes_of rfl rfl rfl rfl) fun _ _ _ _ z => z) (pa_cons (pv 0) pa_nil))))))))))
      , ?_⟩
    refine ⟨_, rfl, v, t, rfl, rt, fun H1 s1 => ?_⟩
    have d0 : pl 3 t = t.plain := rfl
    rw [d0]
    have hT1 := hT.ext s1
    -- both tests
    refine ⟨_, rfl, v, t, rfl, rt.same s1, fun H2 s2 => ⟨_, rfl, v, t, rfl, rt.same (s1.trans s2), fun H3 s3 => ⟨by show 2 ≤ sizeLine; decide, fun l1 hl1 => ?_⟩⟩⟩
    have y3 := same_new (o := .lst [.bl t.plain, .bl t.plain]) hl1
    have sh := bb_sh t.plain t.plain
    refine ⟨l1, bb t.plain t.plain, rfl, .lst (SqL.of upd_same) (.cons (.bl _) (.cons (.bl _) .nil)), sh.1, sh.2.1, sh.2.2.1, sh.2.2.2, ?_⟩
    refine ⟨_, rfl, _, rfl, by show 2 ≤ sizeLine; decide, fun l2 hl2 => ?_⟩
    have y4 := same_new (o := .lst [.bl t.plain, .bl t.plain]) hl2
    refine ⟨l2, bb t.plain t.plain, rfl, .lst (SqL.of upd_same) (.cons (.bl _) (.cons (.bl _) .nil)), sh.1, sh.2.1, sh.2.2.1, sh.2.2.2, rfl, _, rfl, iteNo (by rw [decide_eq_true rfl]; rfl) ?_⟩
    have s4 := s1.trans (s2.trans (s3.trans (y3.trans y4)))
    have rt4 := rt.same s4
    have hT4 := hT.ext s4
    generalize upd (upd H3 l1 (.lst [.bl t.plain, .bl t.plain])) l2 (.lst [.bl t.plain, .bl t.plain]) = H4 at s4 rt4 hT4 ⊢
    refine ⟨_, rfl, _, rfl, ?_⟩
    cases hp : t.plain with
    | true =>
      refine iteYes rfl ⟨_, rfl, v, t, rfl, rt4, fun _ H5 s5 => ⟨_, rfl, v, t, rfl, rt4.same s5, hp, fun H6 s6 => ⟨rfl, _, rfl, iteYes (decide_eq_true rfl) ?_⟩⟩, (fun z => by rw [hp] at z; cases z)⟩
      have rt6 := rt4.same (s5.trans s6)
      refine ⟨_, rfl, v, t, rfl, rt6, fun _ H7 s7 => ⟨_, rfl, iteYes (decide_eq_true rfl) ?_⟩, (fun z => by rw [hp] at z; cases z)⟩
      refine ⟨_, rfl, v, t, rfl, rt6.same s7, fun _ H8 s8 => ⟨nI t.code, .int (t.code : Int), rfl, .int _, ?_⟩, (fun z => by rw [hp] at z; cases z)⟩
      rw [show PT.isCode (.int (t.code : Int)) = true from code_nat (cd_lt 3 t)]
      show Q (.bl (decide (V.bl true = V.bl true))) _
      rw [decide_eq_true rfl]
      have s9 := s4.trans ((s5.trans s6).trans (s7.trans s8))
      exact k _ (ExtN.of s9) (hT.ext s9)
    | false =>
      refine iteNo rfl ⟨hT4, fun H5 e5 T5 => ?_⟩
      refine ⟨_, rfl, v, t, rfl, rt4.ext e5, (fun z => by rw [hp] at z; cases z), fun _ H6 s6 d y hd => ⟨d, _, rfl, rfl, upd_same, ?_⟩⟩
      have e6 := e5.trans (ExtN.of (s6.trans (same_new (o := .xd [("reason", y)]) hd)))
      have T6 := T5.ext (s6.trans (same_new (o := .xd [("reason", y)]) hd))
      refine ⟨_, rfl, _, rfl, iteYes rfl ⟨T6, fun H7 e7 T7 => ?_⟩⟩
      refine ⟨_, rfl, v, t, rfl, rt4.ext (e6.trans e7), (fun z => by rw [hp] at z; cases z), fun _ H8 s8 d y hd => ⟨d, _, rfl, rfl, upd_same, ?_⟩⟩
      have s9 := s8.trans (same_new (o := .xd [("reason", y)]) hd)
      exact k _ ((ExtN.of s4).trans ((e6.trans e7).trans (ExtN.of s9))) (T7.ext s9)
end
end K01
set_option Elab.async false
set_option linter.all false
set_option maxRecDepth 100000
set_option maxHeartbeats 1000000
/-! Mw: o.m(k = v, ..), keywords alone; a ** b of great numbers; one of two readings of a statement -/
namespace Mw
open PySem PySem.Spec PyProof.Rows L2
def tMethK0 (n : Nat) (C : Addr) (m : Str) (sp : Sp) (gV : List V → List V → List V) (E : XK) (ta : TE) (tk : TA) : TE := fun σ H Q => ta σ H fun x H1 => ∃ a dx fs, x = .ref a ∧ H1 a = some (.ins C dx fs) ∧ fs.lookup m = none ∧ tk σ H1 fun zs H2 => zs.length = n ∧ sp (gV [x] zs) H2 Q E
theorem pe_methK0 {X : Cx} {CX : CXT} {k : Nat} {f C : Addr} {fd : FuncData} {ps ks : List Str} {sp : Sp} {E : XK} {m : Str} {o : Expr} {ta : TE} {apos pos : Pos} {kws : List Keyword} {tk : TA} {g : List Value → List Value → List Value} {gV : List V → List V → List V} {pl : Sem Bool}
    (he : PE X o ta) (c : Cls X.K C) (hm : Meth X.K C m f) (F : FnOk X.prog X.w X.K X.mg X.base CX k f fd ps sp) (hr : Room k X.A) (hb : KBn X.K fd ps 1 ks g gV) (hx : Passes CX X E) (hkw : PK X kws tk)
    (hall : (backToKw pos (keywordEach kws X.env)).all (·.1.isSome) = true := by rfl) (hks : (backToKw pos (keywordEach kws X.env)).filterMap (·.1) = ks := by rfl)
    (hpl : ((backTo pos (starEach [] X.env)).any (·.1) || (backToKw pos (keywordEach kws X.env)).any (·.1.isNone)) = false := by rfl)
    (ht : eval (.Call (.Attribute o m apos) [] kws pos) X.env = (do
      let ov ← eval o X.env
      standAt apos.atName
      let (f, first) ← holding [ov] (getMethod ov m pl)
      callWith pos f first (backTo pos (starEach [] X.env)) (backToKw pos (keywordEach kws X.env))) := by rfl) :
    PE X (.Call (.Attribute o m apos) [] kws pos) (tMethK0 ks.length C m sp gV E ta tk) := by
  refine ⟨fun pins s σ H Q I h => ?_⟩
  refine PySem.W.methodCall_KW (pl := pl) (thn (he.run pins s σ H _ I h) fun u s1 ⟨x, H1, I1, rx, a, dx, fs, ex, ea, l, q⟩ => ?_) ht
  subst ex
  obtain rfl : u = Value.ref a := rx
  refine getmeth_ok I1 ea c hm l ?_
  refine PySem.W.callWith_KW0 (first := [.ref a]) (h₀ := X.base) I.ok.mod.kin hm.kp hall (thn (hkw.run pos pins s1 σ H1 _ I1 q) fun ws s2 ⟨zs, H2, I2, rz, l2, q2⟩ => ⟨I2.kIn, ?_⟩) hpl
  rw [hks]
  have r2 := hb.rel (vs := [V.ref a]) (us := [Value.ref a]) (.cons rfl .nil) rz
  refine wpAny_call (codeAny_mono (F.run X.A X.stack s2 H2 ⟨[.ref a], ks.zip ws⟩ (g [.ref a] ws) (gV [.ref a] zs) Q E hr I2.env0 (hb.to s2 [.ref a] ws I2.kIn rfl (rz.length.symm.trans l2)) r2 q2) fun r s' hq => ?_)
  cases r with
  | error e => exact hx pins σ H2 s2 e s' I2 hq
  | ok fl =>
    cases fl with
    | ret u => exact I2.after hq
    | next => exact False.elim hq
    | brk => exact False.elim hq
    | cont => exact False.elim hq
/-- self by place, one parameter by name -/
theorem kbm1 {K : PySem.W.Frag} {fd : FuncData} {s p : Str} (h1 : ∀ a u : Value, bindArgs fd ⟨[a], [(p, u)]⟩ = pure [(s, a), (p, u)]) : KBn K fd [s, p] 1 [p] (fun us ws => us ++ ws) (fun vs zs => vs ++ zs) where
  to := fun sh us ws _ h1' h2' => by
    match us, ws, h1', h2' with
    | [a], [u], _, _ => exact .of_eq (h1 a u)
  rel := fun r r' => r.append r'
/-- self by place, two parameters by name, in their order -/
theorem kbm2 {K : PySem.W.Frag} {fd : FuncData} {s p q : Str} (h1 : ∀ a u v : Value, bindArgs fd ⟨[a], [(p, u), (q, v)]⟩ = pure [(s, a), (p, u), (q, v)]) : KBn K fd [s, p, q] 1 [p, q] (fun us ws => us ++ ws) (fun vs zs => vs ++ zs) where
  to := fun sh us ws _ h1' h2' => by
    match us, ws, h1', h2' with
    | [a], [u, v], _, _ => exact .of_eq (h1 a u v)
  rel := fun r r' => r.append r'
/-- self by place, two parameters by name, the last one first -/
theorem kbm2r {K : PySem.W.Frag} {fd : FuncData} {s p q : Str} (h1 : ∀ a u v : Value, bindArgs fd ⟨[a], [(q, v), (p, u)]⟩ = pure [(s, a), (p, u), (q, v)]) : KBn K fd [s, p, q] 1 [q, p] (fun us ws => us ++ ws.reverse) (fun vs zs => vs ++ zs.reverse) where
  to := fun sh us ws _ h1' h2' => by
    match us, ws, h1', h2' with
    | [a], [v, u], _, _ => exact .of_eq (h1 a u v)
  rel := fun r r' => r.append r'.reverse
/-- a ** b, the base may be great -/
theorem op_powB {X : Cx} : OpR X (binaryOp .Pow) (rI (fun i j => 0 ≤ j ∧ (Builtin.Int.intBits i : Int) * j ≤ 2 ^ 27) fun i j => .int (i ^ j.toNat)) := opI fun _ _ _ _ _ _ _ hc q => pow_int hc.1 hc.2 q
/-- one of two readings of a statement -/
theorem ps_or {X : Cx} {st : Stmt} {t u : TS} (a : PS X st t) (b : PS X st u) : PS X st (fun D σ H => t D σ H ∨ u D σ H) := ⟨fun pins s σ H D I h => h.elim (a.run pins s σ H D I) (b.run pins s σ H D I)⟩
end Mw
set_option Elab.async false
set_option linter.all false
set_option maxRecDepth 100000
set_option maxHeartbeats 4000000
namespace K01
open PySem L2 Xo Lm LamX
abbrev sLaw : Stmt := top 43
abbrev NL : List Str := ["script", "k", "cell", "state", "turn", "number", "due", "deep", "far"]
theorem scLaw : FnScope NL ["script"] (defScope sLaw) := ⟨rfl, rfl, rfl, by decide +kernel, rfl, by decide +kernel, by decide +kernel⟩
section
variable {P : Program} {w : World} {K : PySem.W.Frag} {mg : Str → Option Value} {base : Heap}
theorem pickM {H : Hp} (n : Nat) (h : n < 8) : ∃ (v : V) (t : PT), ([V.int 0, .int 1, .int (-1), .int (4294967296 - 1), .int 4294967296, .bl true, .non, .str "5"] : List V)[n]? = some v ∧ RT K H v t := by
  match n, h with
  | 0, _ => exact ⟨_, _, rfl, .int _⟩
  | 1, _ => exact ⟨_, _, rfl, .int _⟩
  | 2, _ => exact ⟨_, _, rfl, .int _⟩
  | 3, _ => exact ⟨_, _, rfl, .int _⟩
  | 4, _ => exact ⟨_, _, rfl, .int _⟩
  | 5, _ => exact ⟨_, _, rfl, .bl _⟩
  | 6, _ => exact ⟨_, _, rfl, .non⟩
  | 7, _ => exact ⟨_, _, rfl, .str _ (by decide +kernel)⟩
theorem b_sh (b : Bool) : (PyData.bool b).showable = true ∧ (PyData.bool b).hasDict = false ∧ (PyData.bool b).depth ≤ 60 ∧ (PyData.bool b).shown.length ≤ sizeLine := by
  cases b <;> decide +kernel
def spLaw (K : PySem.W.Frag) (P1 : Addr) : Sp := fun vs H Q _ => ∃ (a : Addr) (ns : List Int), vs = [.ref a] ∧ SqL K H a (ns.map V.int) ∧ ns.length ≤ 63 ∧ Tabs (tabs P1) H ∧ ∀ H', Q (.bl true) H'
theorem ok_law {f fr fd_ fv fg fi P1 : Addr} {fd fdr fdd fdv fdg fdi : FuncData} (D : Df K mg "law" "law" sLaw ["script"] f fd) (B : Bl mg) (C : Ck mg) (hsum : mg "sum" = none)
    (Dr : Df K mg "_law_draw" "_law_draw" sDraw ["cell", "k"] fr fdr) (Gr : FnOk P w K mg base CX0 1 fr fdr ["cell", "k"] spDraw) (Dd : Df K mg "_law_digit" "_law_digit" sDigit ["state", "size"] fd_ fdd) (Gdg : FnOk P w K mg base CX0 2 fd_ fdd ["state", "size"] spDigit)
    (Dv : Df K mg "_law_value" "_law_value" sLValue ["state", "depth"] fv fdv) (Gv : FnOk P w K mg base CX0 8 fv fdv ["state", "depth"] (spLValue K 4)) (Dg : ∃ c, Dc K mg "_law_right" sRight ["thing"] fg c fdg) (Gg : Gd.FnG P w K mg base 12 fg fdg ["thing"] (spRight K P1))
    (Di : Df K mg "is_code" "is_code" sCode ["thing"] fi fdi) (Gi : FnOk P w K mg base CX0 3 fi fdi ["thing"] (spCode K)) : Gd.FnG P w K mg base 13 f fd ["script"] (spLaw K P1) := by
  obtain ⟨cg, Dg⟩ := Dg
  obtain ⟨t1, c1⟩ := C.codes
  refine Gd.okG D.F scLaw (fun vs H Q E h => ?_) (fun cdv A outer sh H vs Q E hr hgd h => ?_)
  · obtain ⟨a, ns, rfl, _⟩ := h
    rfl
  · obtain ⟨a, ns, rfl, hS, hlen, hT, k⟩ := h
    have hu64 := hr.units
    have tail : ∃ t, PSs (cxOf C8.CX0 P w K mg base NL "law" (defScope sLaw) f cdv A outer sh H E).nox ((forBody ((defBody sLaw).getD 0 (.Pass ⟨0, 0, 0, 0⟩))).drop 4) t ∧ ∀ D v0 v1 v2 v3 v4 vn tn b v7 v8 H2, b = PT.isCode tn → RT K H2 vn tn → D.nx [v0, v1, v2, v3, v4, some vn, some (.bl b), v7, v8] H2 → t D [v0, v1, v2, v3, v4, some vn, some (.bl b), v7, v8] H2 := by
      refine ⟨_, (pss_one (ps_if (PW.pt (pw_or (pt_cmpR op_ne (pe_callB (Gd.call_reprD hgd hu64) (by rfl) B.repr (by decide +kernel) (pa_cons (pe_call Gi (hr.mono (by decide)) rfl Di.g Di.F.kp Di.b .nil pass0 (pa_cons (pv 5) pa_nil)) pa_nil)) (pe_callB (Gd.call_reprD hgd hu64) (by rfl) B.repr (by decide +kernel) (pa_cons (pv 6) pa_nil)) (nomark _)) (pw_or1 (pt_cmpR op_ne (pe_glob (v := .int 4294967296) rfl c1 ⟨_, rfl⟩) pe_int (nomark _))))) (pss_one (ps_ret pe_bl)) pss_nil)), fun D v0 v1 v2 v3 v4 vn tn b v7 v8 H2 hb rt q => ?_⟩
      subst hb
      have sh := b_sh tn.isCode
      refine ⟨_, rfl, vn, tn, rfl, rt, _, _, rfl, .bl _, sh.1, sh.2.1, sh.2.2.1, sh.2.2.2, _, rfl, _, _, rfl, .bl _, sh.1, sh.2.1, sh.2.2.1, sh.2.2.2, rfl, _, rfl, iteNo (by rw [decide_eq_true rfl]; rfl) ⟨rfl, _, rfl, iteNo (by decide) q⟩⟩
    obtain ⟨t4, hs4, q4⟩ := tail
    refine ⟨_, pss_cons (ps_for PassesOwn.never rfl (pi_enum (by rfl) B.enumerate (pa_cons (pe_op op_cat (pe_slice sl_list (pv 0) po_none (po_some pe_int)) (pe_lst (pa_cons (pe_callB (cr_sum rfl) (by rfl) hsum (by decide +kernel) (pa_cons (pv 0) pa_nil)) pa_nil))) pa_nil)) (pg_tup rfl (pgs_cons (pg_name (i := 1) scLaw.nd rfl (Or.inl rfl)) (pgs_cons (pg_name (i := 2) scLaw.nd rfl (Or.inl rfl)) pgs_nil)))
        (pss_cons (ps_set (i := 3) scLaw.nd rfl (Or.inl rfl) (pe_call Gr (hr.mono (by decide)) rfl Dr.g Dr.F.kp Dr.b .nil pass0 (pa_cons (pv 2) (pa_cons (pv 1) pa_nil))))
        (pss_cons (ps_for PassesOwn.never rfl (pi_range1 rfl B.range (pa_cons pe_int pa_nil)) (pg_name (i := 4) scLaw.nd rfl (Or.inl rfl))
          (pss_one (ps_if (pt_not (pt_val (Gd.pe_callG Gg hr hgd rfl Dg.g Dg.kp Dg.b (pa_cons (pe_call Gv (hr.mono (by decide)) rfl Dv.g Dv.F.kp Dv.b .nil pass0 (pa_cons (pv 3) (pa_cons pe_int pa_nil))) pa_nil)))) (pss_one (ps_ret pe_bl)) pss_nil)))
        (pss_cons (ps_set (i := 5) scLaw.nd rfl (Or.inl rfl) (pe_ix ix_list (pe_lst (pa_cons pe_int (pa_cons pe_int (pa_cons (pe_un un_neg pe_int) (pa_cons (pe_op op_sub (pe_glob (v := .int 4294967296) rfl c1 ⟨_, rfl⟩) pe_int) (pa_cons (pe_glob (v := .int 4294967296) rfl c1 ⟨_, rfl⟩) (pa_cons pe_bl (pa_cons pe_non (pa_cons pe_str pa_nil))))))))) (pe_call Gdg (hr.mono (by decide)) rfl Dd.g Dd.F.kp Dd.b .nil pass0 (pa_cons (pv 3) (pa_cons pe_int pa_nil))) (fun _ _ => rfl)))
        (pss_cons (ps_set (i := 6) scLaw.nd rfl (Or.inl rfl) (pe_and (pe_callB call_isi (by rfl) B.isinstance (by decide +kernel) (pa_cons (pv 5) (pa_cons (pInt (by rfl) B.int) pa_nil))) (pe_and (pe_not (pe_callB call_isi (by rfl) B.isinstance (by decide +kernel) (pa_cons (pv 5) (pa_cons (pBool (by rfl) B.bool) pa_nil)))) (pe_one (pe_chain op_le op_lt pe_int (pv 5) pe_int)))))
        hs4)))))
      (pss_cons (ps_par (i := 7) (j := 8) rfl scLaw.nd rfl rfl (by decide) rfl rfl (pa_cons (pe_tup pa_nil) (pa_cons (pe_op op_add (pe_op Mw.op_powB (pe_op Mw.op_powB (pe_op op_pow pe_int pe_int) pe_int) pe_int) (pe_callB call_len_seq (by rfl) B.len PySem.boot_len (pa_cons (pv 0) pa_nil))) pa_nil)) (by rfl))
      (pss_cons (ps_for PassesOwn.never rfl (pi_range1 rfl B.range (pa_cons pe_int pa_nil)) (pg_name (i := 4) scLaw.nd rfl (Or.inl rfl))
          (pss_one (ps_set (i := 7) scLaw.nd rfl (Or.inl rfl) (pe_tup (pa_cons (pv 7) pa_nil)))))
      (pss_one (ps_ret (pe_and (Gd.pe_callG Gg hr hgd rfl Dg.g Dg.kp Dg.b (pa_cons (pv 7) pa_nil)) (pe_and (Gd.pe_callG Gg hr hgd rfl Dg.g Dg.kp Dg.b (pa_cons (pv 8) pa_nil)) (pe_one (Gd.pe_callG Gg hr hgd rfl Dg.g Dg.kp Dg.b (pa_cons (pe_tup (pa_cons pe_str (pa_cons (pe_op op_sub pe_int (pv 8)) pa_nil))) pa_nil))))))))), ?_⟩
    -- the cells
    refine ⟨_, rfl, _, rfl, a, _, rfl, hS, fun c0 hc0 => ?_⟩
    have y0 := same_new (o := .lst (cutV (ns.map V.int) none (some 6))) hc0
    have cl := cutV_length (ns.map V.int) none (some 6)
    rw [List.length_map] at cl
    refine ⟨_, rfl, a, ns, rfl, y0.seq hS, by show 1 ≤ sizeLine; decide, fun e0 he0 => ?_⟩
    have y1 := same_new (o := .lst [.int ns.sum]) he0
    refine ⟨c0, e0, _, _, rfl, rfl, y1 _ _ upd_same, upd_same, ?_, fun q hq => ?_⟩
    · exact Nat.le_trans (show (cutV (ns.map V.int) none (some 6)).length + 1 ≤ 64 by omega) (by decide)
    have xi : ∀ x ∈ cutV (ns.map V.int) none (some 6) ++ [V.int ns.sum], ∃ z, x = V.int z := fun x hx => by
      rcases List.mem_append.mp hx with hx | hx
      · exact cut_ints hx
      · exact ⟨_, List.mem_singleton.mp hx⟩
    have xl : (cutV (ns.map V.int) none (some 6) ++ [V.int ns.sum]).length ≤ 64 := by
      rw [List.length_append]
      show _ + 1 ≤ _
      omega
    have y2 := y0.trans (y1.trans (same_new (o := .lst (cutV (ns.map V.int) none (some 6) ++ [V.int ns.sum])) hq))
    have eq : upd (upd (upd H c0 (.lst (cutV (ns.map V.int) none (some 6)))) e0 (.lst [.int ns.sum])) q (.lst (cutV (ns.map V.int) none (some 6) ++ [V.int ns.sum])) q = some (.lst (cutV (ns.map V.int) none (some 6) ++ [V.int ns.sum])) := upd_same
    have hSq := y2.seq hS
    have hTq := hT.ext y2
    generalize upd (upd (upd H c0 (.lst (cutV (ns.map V.int) none (some 6)))) e0 (.lst [.int ns.sum])) q (.lst (cutV (ns.map V.int) none (some 6) ++ [V.int ns.sum])) = Hq at eq hSq hTq ⊢
    generalize cutV (ns.map V.int) none (some 6) ++ [V.int ns.sum] = xs at xi xl eq
    have id0 : ExtN Hq Hq := fun _ _ e _ => e
    refine ⟨q, xs, rfl, SqL.of eq, for_enumL (K := K) (a := q) (xs := xs) (fun i σ H' => (∃ v1 v2 v3 v4 v5 v6 v7 v8, σ = [some (.ref a), v1, v2, v3, v4, v5, v6, v7, v8]) ∧ ExtN Hq H' ∧ Tabs (tabs P1) H') ⟨⟨_, _, _, _, _, _, _, _, rfl⟩, id0, hTq⟩ (fun i σ H' _ h => SqL.of (h.2.1 _ _ eq fun ps z => by cases z)) ?_ ?_⟩
    · rintro i x T σ H' hx ⟨⟨v1, v2, v3, v4, v5, v6, v7, v8, rfl⟩, em, tm⟩ hT0
      obtain ⟨c, rfl⟩ := xi x (List.mem_of_getElem? hx)
      have hi : i < 64 := Nat.lt_of_lt_of_le (List.getElem?_eq_some_iff.mp hx).1 xl
      refine ⟨T, _, rfl, SqT.of upd_same, rfl, _, _, rfl, _, _, rfl, rfl, ?_⟩
      have y3 := same_new (o := .tup [.int (i : Nat), .int c]) hT0
      have em1 := em.trans (ExtN.of y3)
      have tm1 := tm.ext y3
      generalize upd H' T (.tup [.int (i : Nat), .int c]) = H1 at em1 tm1 ⊢
      refine ⟨_, rfl, _, rfl, c, ((i : Nat) : Int), rfl, by omega, fun s H2 s2 hs hsrc => ?_⟩
      have em2 := em1.trans (ExtN.of s2)
      have tm2 := tm1.ext s2
      have src := hsrc (1000 * i) (by omega)
      have v4 : vN 4 = 2801000 := by decide
      refine ⟨12, rfl, by decide, by decide, for_range (n := 12) (fun j σ' H3 => (∃ u4 u5 u6 u7 u8, σ' = [some (.ref a), some (.int (i : Nat)), some (.int c), some (.ref s), u4, u5, u6, u7, u8]) ∧ KN H2 H3 s ∧ Src H3 s (1000 * i + j * vN 4) ∧ Tabs (tabs P1) H3) ⟨⟨_, _, _, _, _, rfl⟩, KN.ofS fun _ _ z => z, src.mono (by omega), tm2⟩ ?_ ?_⟩
      · rintro j σ' H3 hj ⟨⟨u4, u5, u6, u7, u8, rfl⟩, k3, s3, t3⟩
        refine ⟨_, rfl, s, 1000 * i + j * vN 4, rfl, s3, by rw [v4]; omega, fun v t H4 rt s4 kp4 => ?_⟩
        have t4 := tabS s3 t3 kp4
        refine ⟨v, t, rfl, rt, t4, fun H5 e5 T5 => ⟨_, rfl, iteNo rfl ?_⟩⟩
        refine ⟨⟨_, _, _, _, _, rfl⟩, (k3.trans (KN.ofK kp4)).trans (KN.ofE e5), (s4.ext e5).mono ?_, T5⟩
        rw [Nat.add_mul, Nat.one_mul]
        omega
      · rintro σ' H3 ⟨⟨u4, u5, u6, u7, u8, rfl⟩, k3, s3, t3⟩
        -- the number
        refine ⟨_, rfl, _, _, rfl, rfl, by show 8 ≤ sizeLine; decide, fun L hL => ?_⟩
        obtain ⟨kvs, e3⟩ := s3.at
        have y5 := same_new (o := .lst [.int 0, .int 1, .int (-1), .int (4294967296 - 1), .int 4294967296, .bl true, .non, .str "5"]) hL
        refine ⟨_, rfl, s, 8, 1000 * i + 12 * vN 4, rfl, s3.same y5, by rw [v4]; omega, by decide, by decide, fun m H5 hm s5 kp5 => ?_⟩
        obtain ⟨vn, tn, en, rt⟩ := pickM (K := K) (H := H5) m hm
        refine ⟨L, _, (m : Int), _, rfl, rfl, SqL.of (kp5 L _ upd_same (ne_of_none e3 hL).symm), atI_nat en, ?_⟩
        have k5 := (k3.trans (KN.ofS y5)).trans (KN.ofK kp5)
        have t5 := tabS (s3.same y5) (t3.ext y5) kp5
        obtain ⟨tv, ty, g1, g2, _⟩ := rt_ty rt
        refine ⟨_, rfl, _, _, _, _, _, rfl, .ty _, ty, g1, _, rfl, ?_⟩
        have fin : ∀ H', KN H2 H' s → Tabs (tabs P1) H' → ExtN Hq H' ∧ Tabs (tabs P1) H' := fun H' kk tt => ⟨KN.ext em1 hs ((KN.ofS s2).trans kk), tt⟩
        cases rt with
        | int z =>
          refine iteYes rfl ⟨_, rfl, _, _, _, _, _, rfl, .ty _, ty, g2, _, rfl, _, rfl, iteYes rfl ⟨_, rfl, _, _, rfl, rfl, _, rfl, ite2 (fun e => ?_) (fun e => ?_)⟩⟩
          · refine ⟨_, _, rfl, rfl, ?_⟩
            have ee : decide (z < 4294967296) = PT.isCode (.int z) := by
              show _ = (decide (0 ≤ z) && decide (z ≤ 4294967295))
              rw [e, Bool.true_and]
              exact decide_eq_decide.mpr (by omega)
            exact q4 _ _ _ _ _ _ _ (.int z) _ _ _ H5 ee (.int z) (by exact ⟨⟨_, _, _, _, _, _, _, _, rfl⟩, fin _ k5 t5⟩)
          · have ee : false = PT.isCode (.int z) := by
              show _ = (decide (0 ≤ z) && decide (z ≤ 4294967295))
              rw [Bool.eq_false_iff.mpr e, Bool.false_and]
            exact q4 _ _ _ _ _ _ _ (.int z) _ _ _ H5 ee (.int z) (by exact ⟨⟨_, _, _, _, _, _, _, _, rfl⟩, fin _ k5 t5⟩)
        | bl b => exact iteYes rfl ⟨_, rfl, _, _, _, _, _, rfl, .ty _, ty, g2, _, rfl, _, rfl, iteNo rfl (q4 _ _ _ _ _ _ _ _ _ _ _ H5 rfl (.bl b) (by exact ⟨⟨_, _, _, _, _, _, _, _, rfl⟩, fin _ k5 t5⟩))⟩
        | non => exact iteNo rfl (q4 _ _ _ _ _ _ _ _ _ _ _ H5 rfl .non (by exact ⟨⟨_, _, _, _, _, _, _, _, rfl⟩, fin _ k5 t5⟩))
        | str x hx => exact iteNo rfl (q4 _ _ _ _ _ _ _ _ _ _ _ H5 rfl (.str x hx) (by exact ⟨⟨_, _, _, _, _, _, _, _, rfl⟩, fin _ k5 t5⟩))
        | tup h r hl => exact iteNo rfl (q4 _ _ _ _ _ _ _ _ _ _ _ H5 rfl (.tup h r hl) (by exact ⟨⟨_, _, _, _, _, _, _, _, rfl⟩, fin _ k5 t5⟩))
        | lst h => exact iteNo rfl (q4 _ _ _ _ _ _ _ _ _ _ _ H5 rfl (.lst h) (by exact ⟨⟨_, _, _, _, _, _, _, _, rfl⟩, fin _ k5 t5⟩))
        | dk h => exact iteNo rfl (q4 _ _ _ _ _ _ _ _ _ _ _ H5 rfl (.dk h) (by exact ⟨⟨_, _, _, _, _, _, _, _, rfl⟩, fin _ k5 t5⟩))
        | ins h b => exact iteNo rfl (q4 _ _ _ _ _ _ _ _ _ _ _ H5 rfl (.ins h b) (by exact ⟨⟨_, _, _, _, _, _, _, _, rfl⟩, fin _ k5 t5⟩))
    · rintro σ' H2 ⟨⟨v1, v2, v3, v4, v5, v6, v7, v8, rfl⟩, em, tm⟩
      refine ⟨by show 0 ≤ sizeLine; decide, fun t0 ht0 => ?_⟩
      have y3 := same_new (o := .tup []) ht0
      refine ⟨_, _, rfl, rfl, ⟨by decide, by decide, by decide⟩, _, _, rfl, rfl, ⟨by decide, by decide +kernel⟩, _, _, rfl, rfl, ⟨by decide, by decide +kernel⟩, _, rfl, a, _, rfl, .inl (y3.seq (seqN em hSq)), _, _, rfl, rfl, _, _, rfl, ?_⟩
      obtain ⟨F, eF⟩ : ∃ F : Int, F = (((10 : Int) ^ (50 : Int).toNat) ^ (50 : Int).toNat) ^ (2 : Int).toNat + ((ns.map V.int).length : Nat) := ⟨_, rfl⟩
      simp only [← eF]
      have e2 := em.trans (ExtN.of y3)
      have t2 := tm.ext y3
      refine ⟨1200, rfl, by decide, by decide, for_range (n := 1200) (fun j σ' H3 => (∃ u4 vd td, σ' = [some (.ref a), v1, v2, v3, u4, v5, v6, some vd, some (.int F)] ∧ RT K H3 vd td) ∧ Tabs (tabs P1) H3) ⟨⟨_, _, .tup [], rfl, .tup upd_same .nil (by decide)⟩, t2⟩ ?_ ?_⟩
      · rintro j σ' H3 hj ⟨⟨u4, vd, td, rfl, rt⟩, t3⟩
        refine ⟨_, rfl, by show 1 ≤ sizeLine; decide, fun tt htt => ?_⟩
        have y := same_new (o := .tup [vd]) htt
        exact ⟨⟨_, _, .tup [td], rfl, .tup upd_same (.cons (rt.same y) .nil) (by show 1 ≤ 1000; decide)⟩, t3.ext y⟩
      · rintro σ' H3 ⟨⟨u4, vd, td, rfl, rt⟩, t3⟩
        refine ⟨_, rfl, vd, td, rfl, rt, t3, fun H4 e4 T4 => ⟨_, rfl, iteYes rfl ?_⟩⟩
        refine ⟨_, rfl, _, _, rfl, .int F, T4, fun H5 e5 T5 => ⟨_, rfl, iteYes rfl ?_⟩⟩
        refine ⟨_, rfl, _, _, rfl, rfl, by show 2 ≤ sizeLine; decide, fun t6 ht6 => ?_⟩
        have y6 := same_new (o := .tup [.str "a", .int (0 - F)]) ht6
        exact ⟨_, .tup [.str "a", .int (0 - F)], rfl, .tup upd_same (.cons (.str _ (by decide +kernel)) (.cons (.int _) .nil)) (by show 2 ≤ 1000; decide), T5.ext y6, fun H7 _ _ => k H7⟩
end
end K01
set_option Elab.async false
set_option linter.all false
set_option maxRecDepth 100000
set_option maxHeartbeats 4000000
namespace K01
open PySem L2 Xo Lm LamX
abbrev sX1 : Stmt := inClass (top 2) 0
theorem scX1 : FnScope ["self", "reason"] ["self", "reason"] (defScope sX1) := ⟨rfl, rfl, rfl, by decide +kernel, rfl, by decide +kernel, by decide +kernel⟩
theorem all_mk {l : PySem.W.OpenLaw} {w : World} {K : PySem.W.Frag} {h : Heap} {mg : Str → Option Value} {fa fW fBt fCo fSg fTx fWi fPn fFo fCp fCf fIk fNk fMx fDr fDg fLt fLv fLp fLc fRf fRt cARt PRt fL CT CB CKy mX1 : Addr} (X : K.In h) (G : h.Ns mainGlobals mg) (hfa : mg "law" = some (.ref fa))
    {odW anW : Option Addr} {slW : Array (Option Value)} {ocW kVW dcW pmW ctW : Value} {cdW : Value} {odBt anBt : Option Addr} {slBt : Array (Option Value)} {ocBt kVBt dcBt pmBt ctBt : Value} {cdBt : Value} {odCo anCo : Option Addr} {slCo : Array (Option Value)} {ocCo kVCo dcCo pmCo ctCo : Value} {cdCo : Value} {odSg anSg : Option Addr} {slSg : Array (Option Value)} {ocSg kVSg dcSg pmSg ctSg : Value} {cdSg : Value} {odTx anTx : Option Addr} {slTx : Array (Option Value)} {ocTx kVTx dcTx pmTx ctTx : Value} {cdTx : Value} {odWi anWi : Option Addr} {slWi : Array (Option Value)} {ocWi kVWi dcWi pmWi ctWi : Value} {cdWi : Value} {odPn anPn : Option Addr} {slPn : Array (Option Value)} {ocPn kVPn dcPn pmPn ctPn : Value} {cdPn : Value} {odFo anFo : Option Addr} {slFo : Array (Option Value)} {ocFo kVFo dcFo pmFo ctFo : Value} {cdFo : Value} {odCp anCp : Option Addr} {slCp : Array (Option Value)} {ocCp kVCp dcCp pmCp ctCp : Value} {cdCp : Value} {odCf anCf : Option Addr} {slCf : Array (Option Value)} {ocCf kVCf dcCf pmCf ctCf : Value} {cdCf : Value} {odIk anIk : Option Addr} {slIk : Array (Option Value)} {ocIk kVIk dcIk pmIk ctIk : Value} {cdIk : Value} {odNk anNk : Option Addr} {slNk : Array (Option Value)} {ocNk kVNk dcNk pmNk ctNk : Value} {cdNk : Value} {odMx anMx : Option Addr} {slMx : Array (Option Value)} {ocMx kVMx dcMx pmMx ctMx : Value} {cdMx : Value} {odDr anDr : Option Addr} {slDr : Array (Option Value)} {ocDr kVDr dcDr pmDr ctDr : Value} {cdDr : Value} {odDg anDg : Option Addr} {slDg : Array (Option Value)} {ocDg kVDg dcDg pmDg ctDg : Value} {cdDg : Value} {odLt anLt : Option Addr} {slLt : Array (Option Value)} {ocLt kVLt dcLt pmLt ctLt : Value} {cdLt : Value} {odLv anLv : Option Addr} {slLv : Array (Option Value)} {ocLv kVLv dcLv pmLv ctLv : Value} {cdLv : Value} {odLp anLp : Option Addr} {slLp : Array (Option Value)} {ocLp kVLp dcLp pmLp ctLp : Value} {cdLp : Value} {odLc anLc : Option Addr} {slLc : Array (Option Value)} {ocLc kVLc dcLc pmLc ctLc : Value} {cdLc : Value} {odRf anRf : Option Addr} {slRf : Array (Option Value)} {ocRf kVRf dcRf pmRf ctRf : Value} {cdRf : Value} {odRt anRt : Option Addr} {slRt : Array (Option Value)} {ocRt kVRt dcRt pmRt ctRt : Value} {xcRt : Value} {xdRt : Option Addr} {xvRt : Array Value} {xsRt : Array (Option Value)} {odL anL : Option Addr} {slL : Array (Option Value)} {ocL kVL dcL pmL ctL : Value} {cdL : Value} {odX1 anX1 : Option Addr} {slX1 : Array (Option Value)} {ocX1 kVX1 dcX1 pmX1 ctX1 : Value} {cdX1 : Value} {tCODES : Tok} {tMAX_SIGNS : Tok} {tFIRST_SIGN : Tok} {tLAST_SIGN : Tok} {tPERCENT_SIGN : Tok} {tMAX_ITEMS : Tok} {tMAX_DEPTH : Tok} {tNONE_CODE : Tok} {tTEXT_START : Tok} {tTEXT_FACTOR : Tok} {tTUPLE_START : Tok} {tTUPLE_FACTOR : Tok}
    (aW : PySem.W.nsIn K mainGlobals "is_whole" = some (some (.ref fW)))
    (lW : K.lookup fW = some ⟨ocW, odW, .func (PySem.W.fnOf "is_whole" "is_whole" (defArgs sWhole) (defBody sWhole) (defScope sWhole) .none kVW dcW pmW anW cdW ctW), slW⟩)
    (cW : PySem.W.codeIn K cdW "is_whole" = true)
    (kW : PySem.W.keepIn K (.ref fW) = true)
    (aBt : PySem.W.nsIn K mainGlobals "is_between" = some (some (.ref fBt)))
    (lBt : K.lookup fBt = some ⟨ocBt, odBt, .func (PySem.W.fnOf "is_between" "is_between" (defArgs sBetween) (defBody sBetween) (defScope sBetween) .none kVBt dcBt pmBt anBt cdBt ctBt), slBt⟩)
    (cBt : PySem.W.codeIn K cdBt "is_between" = true)
    (kBt : PySem.W.keepIn K (.ref fBt) = true)
    (aCo : PySem.W.nsIn K mainGlobals "is_code" = some (some (.ref fCo)))
    (lCo : K.lookup fCo = some ⟨ocCo, odCo, .func (PySem.W.fnOf "is_code" "is_code" (defArgs sCode) (defBody sCode) (defScope sCode) .none kVCo dcCo pmCo anCo cdCo ctCo), slCo⟩)
    (cCo : PySem.W.codeIn K cdCo "is_code" = true)
    (kCo : PySem.W.keepIn K (.ref fCo) = true)
    (aSg : PySem.W.nsIn K mainGlobals "_is_sign" = some (some (.ref fSg)))
    (lSg : K.lookup fSg = some ⟨ocSg, odSg, .func (PySem.W.fnOf "_is_sign" "_is_sign" (defArgs sSign) (defBody sSign) (defScope sSign) .none kVSg dcSg pmSg anSg cdSg ctSg), slSg⟩)
    (cSg : PySem.W.codeIn K cdSg "_is_sign" = true)
    (kSg : PySem.W.keepIn K (.ref fSg) = true)
    (aTx : PySem.W.nsIn K mainGlobals "is_text" = some (some (.ref fTx)))
    (lTx : K.lookup fTx = some ⟨ocTx, odTx, .func (PySem.W.fnOf "is_text" "is_text" (defArgs sText) (defBody sText) (defScope sText) .none kVTx dcTx pmTx anTx cdTx ctTx), slTx⟩)
    (cTx : PySem.W.codeIn K cdTx "is_text" = true)
    (kTx : PySem.W.keepIn K (.ref fTx) = true)
    (aWi : PySem.W.nsIn K mainGlobals "_is_plain_within" = some (some (.ref fWi)))
    (lWi : K.lookup fWi = some ⟨ocWi, odWi, .func (PySem.W.fnOf "_is_plain_within" "_is_plain_within" (defArgs sWithin) (defBody sWithin) (defScope sWithin) .none kVWi dcWi pmWi anWi cdWi ctWi), slWi⟩)
    (cWi : PySem.W.codeIn K cdWi "_is_plain_within" = true)
    (kWi : PySem.W.keepIn K (.ref fWi) = true)
    (aPn : PySem.W.nsIn K mainGlobals "is_plain" = some (some (.ref fPn)))
    (lPn : K.lookup fPn = some ⟨ocPn, odPn, .func (PySem.W.fnOf "is_plain" "is_plain" (defArgs sPlain) (defBody sPlain) (defScope sPlain) .none kVPn dcPn pmPn anPn cdPn ctPn), slPn⟩)
    (cPn : PySem.W.codeIn K cdPn "is_plain" = true)
    (kPn : PySem.W.keepIn K (.ref fPn) = true)
    (aFo : PySem.W.nsIn K mainGlobals "_folded" = some (some (.ref fFo)))
    (lFo : K.lookup fFo = some ⟨ocFo, odFo, .func (PySem.W.fnOf "_folded" "_folded" (defArgs sFolded) (defBody sFolded) (defScope sFolded) .none kVFo dcFo pmFo anFo cdFo ctFo), slFo⟩)
    (cFo : PySem.W.codeIn K cdFo "_folded" = true)
    (kFo : PySem.W.keepIn K (.ref fFo) = true)
    (aCp : PySem.W.nsIn K mainGlobals "_code_of_plain" = some (some (.ref fCp)))
    (lCp : K.lookup fCp = some ⟨ocCp, odCp, .func (PySem.W.fnOf "_code_of_plain" "_code_of_plain" (defArgs sCodeP) (defBody sCodeP) (defScope sCodeP) .none kVCp dcCp pmCp anCp cdCp ctCp), slCp⟩)
    (cCp : PySem.W.codeIn K cdCp "_code_of_plain" = true)
    (kCp : PySem.W.keepIn K (.ref fCp) = true)
    (aCf : PySem.W.nsIn K mainGlobals "code_of" = some (some (.ref fCf)))
    (lCf : K.lookup fCf = some ⟨ocCf, odCf, .func (PySem.W.fnOf "code_of" "code_of" (defArgs sCodeOf) (defBody sCodeOf) (defScope sCodeOf) .none kVCf dcCf pmCf anCf cdCf ctCf), slCf⟩)
    (cCf : PySem.W.codeIn K cdCf "code_of" = true)
    (kCf : PySem.W.keepIn K (.ref fCf) = true)
    (aIk : PySem.W.nsIn K mainGlobals "is_key" = some (some (.ref fIk)))
    (lIk : K.lookup fIk = some ⟨ocIk, odIk, .func (PySem.W.fnOf "is_key" "is_key" (defArgs sIsKey) (defBody sIsKey) (defScope sIsKey) .none kVIk dcIk pmIk anIk cdIk ctIk), slIk⟩)
    (cIk : PySem.W.codeIn K cdIk "is_key" = true)
    (kIk : PySem.W.keepIn K (.ref fIk) = true)
    (aNk : PySem.W.nsIn K mainGlobals "need_key" = some (some (.ref fNk)))
    (lNk : K.lookup fNk = some ⟨ocNk, odNk, .func (PySem.W.fnOf "need_key" "need_key" (defArgs sNeedKey) (defBody sNeedKey) (defScope sNeedKey) .none kVNk dcNk pmNk anNk cdNk ctNk), slNk⟩)
    (cNk : PySem.W.codeIn K cdNk "need_key" = true)
    (kNk : PySem.W.keepIn K (.ref fNk) = true)
    (aMx : PySem.W.nsIn K mainGlobals "_law_mixed" = some (some (.ref fMx)))
    (lMx : K.lookup fMx = some ⟨ocMx, odMx, .func (PySem.W.fnOf "_law_mixed" "_law_mixed" (defArgs sMixed) (defBody sMixed) (defScope sMixed) .none kVMx dcMx pmMx anMx cdMx ctMx), slMx⟩)
    (cMx : PySem.W.codeIn K cdMx "_law_mixed" = true)
    (kMx : PySem.W.keepIn K (.ref fMx) = true)
    (aDr : PySem.W.nsIn K mainGlobals "_law_draw" = some (some (.ref fDr)))
    (lDr : K.lookup fDr = some ⟨ocDr, odDr, .func (PySem.W.fnOf "_law_draw" "_law_draw" (defArgs sDraw) (defBody sDraw) (defScope sDraw) .none kVDr dcDr pmDr anDr cdDr ctDr), slDr⟩)
    (cDr : PySem.W.codeIn K cdDr "_law_draw" = true)
    (kDr : PySem.W.keepIn K (.ref fDr) = true)
    (aDg : PySem.W.nsIn K mainGlobals "_law_digit" = some (some (.ref fDg)))
    (lDg : K.lookup fDg = some ⟨ocDg, odDg, .func (PySem.W.fnOf "_law_digit" "_law_digit" (defArgs sDigit) (defBody sDigit) (defScope sDigit) .none kVDg dcDg pmDg anDg cdDg ctDg), slDg⟩)
    (cDg : PySem.W.codeIn K cdDg "_law_digit" = true)
    (kDg : PySem.W.keepIn K (.ref fDg) = true)
    (aLt : PySem.W.nsIn K mainGlobals "_law_text" = some (some (.ref fLt)))
    (lLt : K.lookup fLt = some ⟨ocLt, odLt, .func (PySem.W.fnOf "_law_text" "_law_text" (defArgs sLText) (defBody sLText) (defScope sLText) .none kVLt dcLt pmLt anLt cdLt ctLt), slLt⟩)
    (cLt : PySem.W.codeIn K cdLt "_law_text" = true)
    (kLt : PySem.W.keepIn K (.ref fLt) = true)
    (aLv : PySem.W.nsIn K mainGlobals "_law_value" = some (some (.ref fLv)))
    (lLv : K.lookup fLv = some ⟨ocLv, odLv, .func (PySem.W.fnOf "_law_value" "_law_value" (defArgs sLValue) (defBody sLValue) (defScope sLValue) .none kVLv dcLv pmLv anLv cdLv ctLv), slLv⟩)
    (cLv : PySem.W.codeIn K cdLv "_law_value" = true)
    (kLv : PySem.W.keepIn K (.ref fLv) = true)
    (aLp : PySem.W.nsIn K mainGlobals "_law_plain" = some (some (.ref fLp)))
    (lLp : K.lookup fLp = some ⟨ocLp, odLp, .func (PySem.W.fnOf "_law_plain" "_law_plain" (defArgs sLPlain) (defBody sLPlain) (defScope sLPlain) .none kVLp dcLp pmLp anLp cdLp ctLp), slLp⟩)
    (cLp : PySem.W.codeIn K cdLp "_law_plain" = true)
    (kLp : PySem.W.keepIn K (.ref fLp) = true)
    (aLc : PySem.W.nsIn K mainGlobals "_law_code" = some (some (.ref fLc)))
    (lLc : K.lookup fLc = some ⟨ocLc, odLc, .func (PySem.W.fnOf "_law_code" "_law_code" (defArgs sLCode) (defBody sLCode) (defScope sLCode) .none kVLc dcLc pmLc anLc cdLc ctLc), slLc⟩)
    (cLc : PySem.W.codeIn K cdLc "_law_code" = true)
    (kLc : PySem.W.keepIn K (.ref fLc) = true)
    (aRf : PySem.W.nsIn K mainGlobals "_law_refused" = some (some (.ref fRf)))
    (lRf : K.lookup fRf = some ⟨ocRf, odRf, .func (PySem.W.fnOf "_law_refused" "_law_refused" (defArgs sRefd) (defBody sRefd) (defScope sRefd) .none kVRf dcRf pmRf anRf cdRf ctRf), slRf⟩)
    (cRf : PySem.W.codeIn K cdRf "_law_refused" = true)
    (kRf : PySem.W.keepIn K (.ref fRf) = true)
    (aRt : PySem.W.nsIn K mainGlobals "_law_right" = some (some (.ref fRt)))
    (lRt : K.lookup fRt = some ⟨ocRt, odRt, .func (PySem.W.fnOf "_law_right" "_law_right" (defArgs sRight) (defBody sRight) (defScope sRight) .none kVRt dcRt pmRt anRt (.ref cARt) ctRt), slRt⟩)
    (cRt : PySem.W.codeIn K (.ref cARt) "_law_right" = true)
    (kRt : PySem.W.keepIn K (.ref fRt) = true)
    (xRt : K.lookup cARt = some ⟨xcRt, xdRt, .fields xvRt, xsRt⟩)
    (yRt : xvRt[11]? = some (.ref PRt))
    (hRt : PySem.W.codeHdIn K cARt PRt = true)
    (nRt : K.lookup PRt = none)
    (tRt : h.get? PRt = some { cls := .none, data := .fields #[] })
    (aL : PySem.W.nsIn K mainGlobals "law" = some (some (.ref fL)))
    (lL : K.lookup fL = some ⟨ocL, odL, .func (PySem.W.fnOf "law" "law" (defArgs sLaw) (defBody sLaw) (defScope sLaw) .none kVL dcL pmL anL cdL ctL), slL⟩)
    (cL : PySem.W.codeIn K cdL "law" = true)
    (kL : PySem.W.keepIn K (.ref fL) = true)
    (gTableError : PySem.W.nsIn K mainGlobals "TableError" = some (some (.ref CT)))
    (gBadKey : PySem.W.nsIn K mainGlobals "BadKey" = some (some (.ref CB)))
    (gKey : PySem.W.nsIn K mainGlobals "Key" = some (some (.ref CKy)))
    (u1E1 : PySem.W.excInitIn K CB [.type "ValueError", .type "Exception", .type "BaseException", .type "object"] "ValueError.__new__" = true)
    (u2E1 : PySem.W.excOver K CB [.type "ValueError", .type "Exception", .type "BaseException", .type "object"] = true)
    (u3E1 : PySem.W.hasDictIn K CB = true)
    (u4E1 : PySem.W.findIn K (.ref CB) "__setattr__" = some (some (.builtin "object.__setattr__")))
    (u5E1 : PySem.W.findIn K (.ref CB) "__getattribute__" = some (some (.builtin "BaseException.__getattribute__")))
    (u6E1 : PySem.W.findIn K (.ref CB) "__getattr__" = some none)
    (u7E1 : PySem.W.subIn K (.ref CB) (.type "BaseException") = some true)
    (u8E1 : PySem.W.typeIn K (.ref CB) = some (.type "type"))
    (u9E1 : PySem.W.keepIn K (.ref CB) = true)
    (v1E1 : PySem.W.findIn K (.ref CB) "__class__" = some (some (.builtin "object.__class__")))
    (v2E1 : PySem.W.specialIn K (.builtin "object.__class__") "__get__" = some (some (.builtin "getset_descriptor.__get__")))
    (v3E1 : PySem.W.takesIn K (.builtin "object.__class__") = some true)
    (v4E1 : PySem.W.mroIn K CB (.type "object") = some true)
    (aX1 : PySem.W.findIn K (.ref CB) "__init__" = some (some (.ref mX1)))
    (iX1 : PySem.W.typeIn K (.ref mX1) = some (.type "function"))
    (jX1 : PySem.W.findIn K (.ref CB) "reason" = some none)
    (lX1 : K.lookup mX1 = some ⟨ocX1, odX1, .func (PySem.W.fnOf "__init__" "BadKey.__init__" (defArgs sX1) (defBody sX1) (defScope sX1) .none kVX1 dcX1 pmX1 anX1 cdX1 ctX1), slX1⟩)
    (cX1 : PySem.W.codeIn K cdX1 "BadKey.__init__" = true)
    (kX1 : PySem.W.keepIn K (.ref mX1) = true)
    (bx : PySem.W.exmOne K (.ref CB) (.ref CT) = some true)
    (bk : PySem.W.kitOne K (.ref CB) (.ref CB) = some true)
    (bv : PySem.W.kitOne K (.ref CB) (.type "ValueError") = some true)
    (nkn : PySem.W.kitOne K (.type "NoneType") (.ref CKy) = some false)
    (nkb : PySem.W.kitOne K (.type "bool") (.ref CKy) = some false)
    (nki : PySem.W.kitOne K (.type "int") (.ref CKy) = some false)
    (nks : PySem.W.kitOne K (.type "str") (.ref CKy) = some false)
    (nkt : PySem.W.kitOne K (.type "tuple") (.ref CKy) = some false)
    (nkl : PySem.W.kitOne K (.type "list") (.ref CKy) = some false)
    (nkd : PySem.W.kitOne K (.type "dict") (.ref CKy) = some false)
    (zisinstance : PySem.W.nsIn K mainGlobals "isinstance" = some none)
    (zint : PySem.W.nsIn K mainGlobals "int" = some none)
    (zbool : PySem.W.nsIn K mainGlobals "bool" = some none)
    (zlist : PySem.W.nsIn K mainGlobals "list" = some none)
    (zrange : PySem.W.nsIn K mainGlobals "range" = some none)
    (zlen : PySem.W.nsIn K mainGlobals "len" = some none)
    (zmin : PySem.W.nsIn K mainGlobals "min" = some none)
    (zmax : PySem.W.nsIn K mainGlobals "max" = some none)
    (zsorted : PySem.W.nsIn K mainGlobals "sorted" = some none)
    (zenumerate : PySem.W.nsIn K mainGlobals "enumerate" = some none)
    (zrepr : PySem.W.nsIn K mainGlobals "repr" = some none)
    (ztuple : PySem.W.nsIn K mainGlobals "tuple" = some none)
    (zdivmod : PySem.W.nsIn K mainGlobals "divmod" = some none)
    (zall : PySem.W.nsIn K mainGlobals "all" = some none)
    (zord : PySem.W.nsIn K mainGlobals "ord" = some none)
    (zstr : PySem.W.nsIn K mainGlobals "str" = some none)
    (zsum : PySem.W.nsIn K mainGlobals "sum" = some none)
    (zValueError : PySem.W.nsIn K mainGlobals "ValueError" = some none)
    (gCODES : PySem.W.nsIn K mainGlobals "CODES" = some (some (.int 4294967296 tCODES)))
    (gMAX_SIGNS : PySem.W.nsIn K mainGlobals "MAX_SIGNS" = some (some (.int 40 tMAX_SIGNS)))
    (gFIRST_SIGN : PySem.W.nsIn K mainGlobals "FIRST_SIGN" = some (some (.int 32 tFIRST_SIGN)))
    (gLAST_SIGN : PySem.W.nsIn K mainGlobals "LAST_SIGN" = some (some (.int 126 tLAST_SIGN)))
    (gPERCENT_SIGN : PySem.W.nsIn K mainGlobals "PERCENT_SIGN" = some (some (.int 37 tPERCENT_SIGN)))
    (gMAX_ITEMS : PySem.W.nsIn K mainGlobals "MAX_ITEMS" = some (some (.int 6 tMAX_ITEMS)))
    (gMAX_DEPTH : PySem.W.nsIn K mainGlobals "MAX_DEPTH" = some (some (.int 3 tMAX_DEPTH)))
    (gNONE_CODE : PySem.W.nsIn K mainGlobals "NONE_CODE" = some (some (.int 1297303124 tNONE_CODE)))
    (gTEXT_START : PySem.W.nsIn K mainGlobals "TEXT_START" = some (some (.int 17 tTEXT_START)))
    (gTEXT_FACTOR : PySem.W.nsIn K mainGlobals "TEXT_FACTOR" = some (some (.int 33 tTEXT_FACTOR)))
    (gTUPLE_START : PySem.W.nsIn K mainGlobals "TUPLE_START" = some (some (.int 41 tTUPLE_START)))
    (gTUPLE_FACTOR : PySem.W.nsIn K mainGlobals "TUPLE_FACTOR" = some (some (.int 1000003 tTUPLE_FACTOR))) :
    Gd.LawAtG l w K 13 63 "script" mg fa h := by
  have FW := fun_mk (st := sWhole) lW cW kW
  have dW : Df K mg "is_whole" "is_whole" sWhole ["thing"] fW _ := ⟨FW, FW.binds (ps := ["thing"]) (fun _ _ _ _ _ _ us hl => match us, hl with | [_], _ => rfl), PySem.W.mg_of X G aW⟩
  have FBt := fun_mk (st := sBetween) lBt cBt kBt
  have dBt : Df K mg "is_between" "is_between" sBetween ["thing", "low", "high"] fBt _ := ⟨FBt, FBt.binds (ps := ["thing", "low", "high"]) (fun _ _ _ _ _ _ us hl => match us, hl with | [_, _, _], _ => rfl), PySem.W.mg_of X G aBt⟩
  have FCo := fun_mk (st := sCode) lCo cCo kCo
  have dCo : Df K mg "is_code" "is_code" sCode ["thing"] fCo _ := ⟨FCo, FCo.binds (ps := ["thing"]) (fun _ _ _ _ _ _ us hl => match us, hl with | [_], _ => rfl), PySem.W.mg_of X G aCo⟩
  have FSg := fun_mk (st := sSign) lSg cSg kSg
  have dSg : Df K mg "_is_sign" "_is_sign" sSign ["number"] fSg _ := ⟨FSg, FSg.binds (ps := ["number"]) (fun _ _ _ _ _ _ us hl => match us, hl with | [_], _ => rfl), PySem.W.mg_of X G aSg⟩
  have FTx := fun_mk (st := sText) lTx cTx kTx
  have dTx : Df K mg "is_text" "is_text" sText ["thing"] fTx _ := ⟨FTx, FTx.binds (ps := ["thing"]) (fun _ _ _ _ _ _ us hl => match us, hl with | [_], _ => rfl), PySem.W.mg_of X G aTx⟩
  have FWi := fun_mk (st := sWithin) lWi cWi kWi
  have dWi : Df K mg "_is_plain_within" "_is_plain_within" sWithin ["thing", "depth"] fWi _ := ⟨FWi, FWi.binds (ps := ["thing", "depth"]) (fun _ _ _ _ _ _ us hl => match us, hl with | [_, _], _ => rfl), PySem.W.mg_of X G aWi⟩
  have FPn := fun_mk (st := sPlain) lPn cPn kPn
  have dPn : Df K mg "is_plain" "is_plain" sPlain ["thing"] fPn _ := ⟨FPn, FPn.binds (ps := ["thing"]) (fun _ _ _ _ _ _ us hl => match us, hl with | [_], _ => rfl), PySem.W.mg_of X G aPn⟩
  have FFo := fun_mk (st := sFolded) lFo cFo kFo
  have dFo : Df K mg "_folded" "_folded" sFolded ["start", "factor", "numbers"] fFo _ := ⟨FFo, FFo.binds (ps := ["start", "factor", "numbers"]) (fun _ _ _ _ _ _ us hl => match us, hl with | [_, _, _], _ => rfl), PySem.W.mg_of X G aFo⟩
  have FCp := fun_mk (st := sCodeP) lCp cCp kCp
  have dCp : Df K mg "_code_of_plain" "_code_of_plain" sCodeP ["key"] fCp _ := ⟨FCp, FCp.binds (ps := ["key"]) (fun _ _ _ _ _ _ us hl => match us, hl with | [_], _ => rfl), PySem.W.mg_of X G aCp⟩
  have FCf := fun_mk (st := sCodeOf) lCf cCf kCf
  have dCf : Df K mg "code_of" "code_of" sCodeOf ["key"] fCf _ := ⟨FCf, FCf.binds (ps := ["key"]) (fun _ _ _ _ _ _ us hl => match us, hl with | [_], _ => rfl), PySem.W.mg_of X G aCf⟩
  have FIk := fun_mk (st := sIsKey) lIk cIk kIk
  have dIk : Df K mg "is_key" "is_key" sIsKey ["thing"] fIk _ := ⟨FIk, FIk.binds (ps := ["thing"]) (fun _ _ _ _ _ _ us hl => match us, hl with | [_], _ => rfl), PySem.W.mg_of X G aIk⟩
  have FNk := fun_mk (st := sNeedKey) lNk cNk kNk
  have dNk : Df K mg "need_key" "need_key" sNeedKey ["key"] fNk _ := ⟨FNk, FNk.binds (ps := ["key"]) (fun _ _ _ _ _ _ us hl => match us, hl with | [_], _ => rfl), PySem.W.mg_of X G aNk⟩
  have FMx := fun_mk (st := sMixed) lMx cMx kMx
  have dMx : Df K mg "_law_mixed" "_law_mixed" sMixed ["cell", "k"] fMx _ := ⟨FMx, FMx.binds (ps := ["cell", "k"]) (fun _ _ _ _ _ _ us hl => match us, hl with | [_, _], _ => rfl), PySem.W.mg_of X G aMx⟩
  have FDr := fun_mk (st := sDraw) lDr cDr kDr
  have dDr : Df K mg "_law_draw" "_law_draw" sDraw ["cell", "k"] fDr _ := ⟨FDr, FDr.binds (ps := ["cell", "k"]) (fun _ _ _ _ _ _ us hl => match us, hl with | [_, _], _ => rfl), PySem.W.mg_of X G aDr⟩
  have FDg := fun_mk (st := sDigit) lDg cDg kDg
  have dDg : Df K mg "_law_digit" "_law_digit" sDigit ["state", "size"] fDg _ := ⟨FDg, FDg.binds (ps := ["state", "size"]) (fun _ _ _ _ _ _ us hl => match us, hl with | [_, _], _ => rfl), PySem.W.mg_of X G aDg⟩
  have FLt := fun_mk (st := sLText) lLt cLt kLt
  have dLt : Df K mg "_law_text" "_law_text" sLText ["state"] fLt _ := ⟨FLt, FLt.binds (ps := ["state"]) (fun _ _ _ _ _ _ us hl => match us, hl with | [_], _ => rfl), PySem.W.mg_of X G aLt⟩
  have FLv := fun_mk (st := sLValue) lLv cLv kLv
  have dLv : Df K mg "_law_value" "_law_value" sLValue ["state", "depth"] fLv _ := ⟨FLv, FLv.binds (ps := ["state", "depth"]) (fun _ _ _ _ _ _ us hl => match us, hl with | [_, _], _ => rfl), PySem.W.mg_of X G aLv⟩
  have FLp := fun_mk (st := sLPlain) lLp cLp kLp
  have dLp : Df K mg "_law_plain" "_law_plain" sLPlain ["thing", "depth"] fLp _ := ⟨FLp, FLp.binds (ps := ["thing", "depth"]) (fun _ _ _ _ _ _ us hl => match us, hl with | [_, _], _ => rfl), PySem.W.mg_of X G aLp⟩
  have FLc := fun_mk (st := sLCode) lLc cLc kLc
  have dLc : Df K mg "_law_code" "_law_code" sLCode ["key"] fLc _ := ⟨FLc, FLc.binds (ps := ["key"]) (fun _ _ _ _ _ _ us hl => match us, hl with | [_], _ => rfl), PySem.W.mg_of X G aLc⟩
  have dRf : Dz K mg "_law_refused" sRefd "call" fRf := ⟨PySem.W.mg_of X G aRf, kRf, ⟨_, _, _, _, _, _, _, _, _, _, lRf, cRf, .all (fun us hl => match us, hl with | [_], _ => rfl)⟩⟩
  have dRt : Dc K mg "_law_right" sRight ["thing"] fRt cARt _ := ⟨⟨_, _, _, _, _, _, _, _, rfl, lRt, cRt⟩, kRt, .all (fun us hl => match us, hl with | [_], _ => rfl), PySem.W.mg_of X G aRt⟩
  have FL := fun_mk (st := sLaw) lL cL kL
  have dL : Df K mg "law" "law" sLaw ["script"] fL _ := ⟨FL, FL.binds (ps := ["script"]) (fun _ _ _ _ _ _ us hl => match us, hl with | [_], _ => rfl), PySem.W.mg_of X G aL⟩
  have wE1 : Xo.XC K CB := ⟨⟨"ValueError", _, _, _, PySem.F.excBase_ValueError, PySem.F.store_ValueError, u1E1, u2E1⟩, u3E1, u4E1, u5E1, u6E1, u7E1, u8E1, u9E1⟩
  have eE1 : ExcC K CB := ⟨u5E1, u6E1, u7E1, u3E1, v1E1, v2E1, v3E1, v4E1⟩
  have FX1 := fun_mk (st := sX1) lX1 cX1 kX1
  have bX1 := FX1.binds (ps := ["self", "reason"]) (fun _ _ _ _ _ _ us hl => match us, hl with | [_, _], _ => rfl)
  have NK : NotKey K CKy := ⟨nkn, nkb, nki, nks, nkt, nkl, nkd, gKey⟩
  have e := hfa.symm.trans (PySem.W.mg_of X G aL)
  cases e
  have B : Bl mg := ⟨PySem.W.mg_none_of X G zisinstance, PySem.W.mg_none_of X G zint, PySem.W.mg_none_of X G zbool, PySem.W.mg_none_of X G zlist, PySem.W.mg_none_of X G zrange, PySem.W.mg_none_of X G zlen, PySem.W.mg_none_of X G zmin, PySem.W.mg_none_of X G zmax, PySem.W.mg_none_of X G zsorted, PySem.W.mg_none_of X G zenumerate, PySem.W.mg_none_of X G zrepr, PySem.W.mg_none_of X G ztuple, PySem.W.mg_none_of X G zdivmod⟩
  have B2 : Bk mg := ⟨PySem.W.mg_none_of X G zall, PySem.W.mg_none_of X G zord, PySem.W.mg_none_of X G zstr⟩
  have CkH : Ck mg := ⟨⟨_, PySem.W.mg_of X G gCODES⟩, ⟨_, PySem.W.mg_of X G gMAX_SIGNS⟩, ⟨_, PySem.W.mg_of X G gFIRST_SIGN⟩, ⟨_, PySem.W.mg_of X G gLAST_SIGN⟩, ⟨_, PySem.W.mg_of X G gPERCENT_SIGN⟩⟩
  have CqH : Cq mg := ⟨⟨_, PySem.W.mg_of X G gMAX_ITEMS⟩, ⟨_, PySem.W.mg_of X G gMAX_DEPTH⟩, ⟨_, PySem.W.mg_of X G gNONE_CODE⟩, ⟨_, PySem.W.mg_of X G gTEXT_START⟩, ⟨_, PySem.W.mg_of X G gTEXT_FACTOR⟩, ⟨_, PySem.W.mg_of X G gTUPLE_START⟩, ⟨_, PySem.W.mg_of X G gTUPLE_FACTOR⟩⟩
  refine ⟨PySem.W.fnOf "law" "law" (defArgs sLaw) (defBody sLaw) (defScope sLaw) .none kVL dcL pmL anL cdL ctL, [(cARt, PRt)], spLaw K PRt, ?_, ?_, ?_, fun s v => .of_eq rfl, fun H a ns hl hH hS => ⟨a, ns, rfl, hS, hl, ?_, fun _ => rfl⟩, fun base hb hg hT => ?_⟩
  · exact List.forall_mem_cons.mpr ⟨tRt, fun _ z => nomatch z⟩
  · exact List.forall_mem_cons.mpr ⟨nRt, fun _ z => nomatch z⟩
  · exact List.forall_mem_cons.mpr ⟨PySem.W.codeHd_of_K X hRt, fun _ z => nomatch z⟩
  · exact List.forall_mem_cons.mpr ⟨.nil (hH _ (List.mem_cons_self ..)), fun _ z => nomatch z⟩
  have x1 : XK l.prog w K mg base "BadKey" CB "reason" := ⟨PySem.W.mg_of X G gBadKey, wE1, jX1, ⟨mX1, _, aX1, iX1, bX1, Xo.ok_xinit FX1 scX1 rfl (by decide) (by decide)⟩⟩
  have Bd : Bad K CB CT := ⟨bx, eE1, bk, bv⟩
  have gW := ok_whole (P := l.prog) (w := w) (base := base) dW B
  have gBt := ok_between dBt dW gW
  have gCo := ok_code dCo dBt gBt (PySem.W.mg_of X G gCODES)
  have gSg := ok_sign (P := l.prog) (w := w) (base := base) dSg CkH
  have gTx := ok_text (K := K) dTx B B2 CkH dSg gSg
  have gWi := ok_within dWi B B2 CqH dW gW dTx gTx 3
  have gPn := ok_plain dPn CqH dWi gWi
  have gFo := ok_folded (P := l.prog) (w := w) (base := base) dFo CkH
  have gCp := ok_codeP (K := K) dCp B B2 CkH CqH dFo gFo 3
  have gCf := ok_codeOf dCf dPn gPn dCp gCp x1
  have gIk := ok_isKey dIk B (PySem.W.mg_of X G gKey) NK dPn gPn
  have gNk := ok_needKey dNk dIk gIk x1
  have gMx := ok_mixed (P := l.prog) (w := w) (base := base) dMx
  have gDr := ok_draw (P := l.prog) (w := w) (base := base) dDr
  have gDg := ok_digit dDg B dMx gMx
  have gLt := ok_ltext dLt B dDg gDg
  have gLv := ok_lvalue (K := K) dLv B dDg gDg dLt gLt 4 (Nat.le_refl 4)
  have gLp := ok_lplain (P := l.prog) (w := w) (base := base) dLp B B2 3
  have gLc := ok_lcode (P := l.prog) (w := w) (base := base) dLc B B2 3
  have tb1 : TabB base mg cARt PRt := hT _ (List.mem_cons_self ..)
  have gRt := ok_right dRt B (PySem.W.mg_none_of X G zValueError) (PySem.W.mg_of X G gTableError) (PySem.W.mg_of X G gBadKey) Bd dRf tb1 dPn gPn dIk gIk dCo gCo dLp gLp dLc gLc dCf gCf dNk gNk
  exact ok_law dL B CkH (PySem.W.mg_none_of X G zsum) dDr gDr dDg gDg dLv gLv ⟨_, dRt⟩ gRt dCo gCo

theorem walk {l : PySem.W.OpenLaw} {q : Program} {loose : List Str} {XP : (Str → Option Value) → Heap → Prop} {YP : World → Heap → Prop} {d : DefRec} {K : Params → PySem.W.Frag} (hn : l.most = some 63) (hdf : d.params.defaults = [])
    (hY : ∀ (w : World) (h : Heap), YP w h → (K w.params).In h)
    (F : ∀ (w : World) (mg : Str → Option Value) (fa : Addr) (h : Heap), YP w h → (K w.params).In h → h.Ns mainGlobals mg → mg d.name = some (.ref fa) → Gd.LawAtG l w (K w.params) 13 63 "script" mg fa h) :
    PySem.W.WalkO q loose XP YP l.row.toRowW d [] (fun f vs => PySem.call f vs) := Gd.walk_ofG hn (by decide) hdf ⟨rfl, by decide, by decide⟩ hY F
end K01
open PySem PySem.W PyProof.Rows
set_option maxRecDepth 100000 in
set_option maxHeartbeats 0 in
theorem PySem.Challenge.cw_entryhall_k01_plain_keys_and_codes_holds : PySem.Challenge.rw_entryhall_k01_plain_keys_and_codes.Holds := by
  w_on; o_law; k_head; (case hw => w_witness2)
  k_fill
  refine K01.walk (l := PySem.Challenge.rw_entryhall_k01_plain_keys_and_codes) rfl rfl (fun w h Y => PySem.W.km_in_of Y) ?F
  case F =>
    intro w mg fa h Y KX G hmg
    have hT8 := PySem.W.km_tabs_of Y
    refine' K01.all_mk KX G hmg ?aW ?lW ?cW ?kW ?aBt ?lBt ?cBt ?kBt ?aCo ?lCo ?cCo ?kCo ?aSg ?lSg ?cSg ?kSg ?aTx ?lTx ?cTx ?kTx ?aWi ?lWi ?cWi ?kWi ?aPn ?lPn ?cPn ?kPn ?aFo ?lFo ?cFo ?kFo ?aCp ?lCp ?cCp ?kCp ?aCf ?lCf ?cCf ?kCf ?aIk ?lIk ?cIk ?kIk ?aNk ?lNk ?cNk ?kNk ?aMx ?lMx ?cMx ?kMx ?aDr ?lDr ?cDr ?kDr ?aDg ?lDg ?cDg ?kDg ?aLt ?lLt ?cLt ?kLt ?aLv ?lLv ?cLv ?kLv ?aLp ?lLp ?cLp ?kLp ?aLc ?lLc ?cLc ?kLc ?aRf ?lRf ?cRf ?kRf ?aRt ?lRt ?cRt ?kRt ?xRt ?yRt ?hRt ?nRt ?tRt ?aL ?lL ?cL ?kL ?gTableError ?gBadKey ?gKey ?u1E1 ?u2E1 ?u3E1 ?u4E1 ?u5E1 ?u6E1 ?u7E1 ?u8E1 ?u9E1 ?v1E1 ?v2E1 ?v3E1 ?v4E1 ?aX1 ?iX1 ?jX1 ?lX1 ?cX1 ?kX1 ?bx ?bk ?bv ?nkn ?nkb ?nki ?nks ?nkt ?nkl ?nkd ?zisinstance ?zint ?zbool ?zlist ?zrange ?zlen ?zmin ?zmax ?zsorted ?zenumerate ?zrepr ?ztuple ?zdivmod ?zall ?zord ?zstr ?zsum ?zValueError ?gCODES ?gMAX_SIGNS ?gFIRST_SIGN ?gLAST_SIGN ?gPERCENT_SIGN ?gMAX_ITEMS ?gMAX_DEPTH ?gNONE_CODE ?gTEXT_START ?gTEXT_FACTOR ?gTUPLE_START ?gTUPLE_FACTOR
    (case aW => k_is)
    (case lW => k_is)
    (case cW => k_is)
    (case kW => k_is)
    (case aBt => k_is)
    (case lBt => k_is)
    (case cBt => k_is)
    (case kBt => k_is)
    (case aCo => k_is)
    (case lCo => k_is)
    (case cCo => k_is)
    (case kCo => k_is)
    (case aSg => k_is)
    (case lSg => k_is)
    (case cSg => k_is)
    (case kSg => k_is)
    (case aTx => k_is)
    (case lTx => k_is)
    (case cTx => k_is)
    (case kTx => k_is)
    (case aWi => k_is)
    (case lWi => k_is)
    (case cWi => k_is)
    (case kWi => k_is)
    (case aPn => k_is)
    (case lPn => k_is)
    (case cPn => k_is)
    (case kPn => k_is)
    (case aFo => k_is)
    (case lFo => k_is)
    (case cFo => k_is)
    (case kFo => k_is)
    (case aCp => k_is)
    (case lCp => k_is)
    (case cCp => k_is)
    (case kCp => k_is)
    (case aCf => k_is)
    (case lCf => k_is)
    (case cCf => k_is)
    (case kCf => k_is)
    (case aIk => k_is)
    (case lIk => k_is)
    (case cIk => k_is)
    (case kIk => k_is)
    (case aNk => k_is)
    (case lNk => k_is)
    (case cNk => k_is)
    (case kNk => k_is)
    (case aMx => k_is)
    (case lMx => k_is)
    (case cMx => k_is)
    (case kMx => k_is)
    (case aDr => k_is)
    (case lDr => k_is)
    (case cDr => k_is)
    (case kDr => k_is)
    (case aDg => k_is)
    (case lDg => k_is)
    (case cDg => k_is)
    (case kDg => k_is)
    (case aLt => k_is)
    (case lLt => k_is)
    (case cLt => k_is)
    (case kLt => k_is)
    (case aLv => k_is)
    (case lLv => k_is)
    (case cLv => k_is)
    (case kLv => k_is)
    (case aLp => k_is)
    (case lLp => k_is)
    (case cLp => k_is)
    (case kLp => k_is)
    (case aLc => k_is)
    (case lLc => k_is)
    (case cLc => k_is)
    (case kLc => k_is)
    (case aRf => k_is)
    (case lRf => k_is)
    (case cRf => k_is)
    (case kRf => k_is)
    (case aRt => k_is)
    (case lRt => k_is)
    (case cRt => k_is)
    (case kRt => k_is)
    (case xRt => k_is)
    (case yRt => exact rfl)
    (case hRt => kernel_rfl)
    (case nRt => kernel_rfl)
    (case tRt => exact hT8 _ (by simp))
    (case aL => k_is)
    (case lL => k_is)
    (case cL => k_is)
    (case kL => k_is)
    (case gTableError => k_is)
    (case gBadKey => k_is)
    (case gKey => k_is)
    (case u1E1 => kx_is)
    (case u2E1 => kx_is)
    (case u3E1 => k_is)
    (case u4E1 => k_is)
    (case u5E1 => k_is)
    (case u6E1 => k_is)
    (case u7E1 => k_is)
    (case u8E1 => k_is)
    (case u9E1 => k_is)
    (case v1E1 => k_is)
    (case v2E1 => k_is)
    (case v3E1 => k_is)
    (case v4E1 => k_is)
    (case aX1 => k_is)
    (case iX1 => k_is)
    (case jX1 => k_is)
    (case lX1 => k_is)
    (case cX1 => k_is)
    (case kX1 => k_is)
    (case bx => kernel_rfl)
    (case bk => kit_is)
    (case bv => kit_is)
    (case nkn => kit_is)
    (case nkb => kit_is)
    (case nki => kit_is)
    (case nks => kit_is)
    (case nkt => kit_is)
    (case nkl => kit_is)
    (case nkd => kit_is)
    (case zisinstance => k_is)
    (case zint => k_is)
    (case zbool => k_is)
    (case zlist => k_is)
    (case zrange => k_is)
    (case zlen => k_is)
    (case zmin => k_is)
    (case zmax => k_is)
    (case zsorted => k_is)
    (case zenumerate => k_is)
    (case zrepr => k_is)
    (case ztuple => k_is)
    (case zdivmod => k_is)
    (case zall => k_is)
    (case zord => k_is)
    (case zstr => k_is)
    (case zsum => k_is)
    (case zValueError => k_is)
    (case gCODES => k_is)
    (case gMAX_SIGNS => k_is)
    (case gFIRST_SIGN => k_is)
    (case gLAST_SIGN => k_is)
    (case gPERCENT_SIGN => k_is)
    (case gMAX_ITEMS => k_is)
    (case gMAX_DEPTH => k_is)
    (case gNONE_CODE => k_is)
    (case gTEXT_START => k_is)
    (case gTEXT_FACTOR => k_is)
    (case gTUPLE_START => k_is)
    (case gTUPLE_FACTOR => k_is)
#print axioms PySem.Challenge.cw_entryhall_k01_plain_keys_and_codes_holds
