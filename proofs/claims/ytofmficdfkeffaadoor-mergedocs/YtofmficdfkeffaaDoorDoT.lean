/-
  Atoms of runs; runs that stand as they must are told by their atoms. No walk.
-/
import Derived.Test.YtofmficdfkeffaaDoorDoA
import Derived.Test.YtofmficdfkeffaaDoorDMa
namespace Go.Proofs.YtofmficdfkeffaaDoor
open Go.ChangeShapes Go.WideShapes Go.ChangeAt Go.RowKit Go.PlainAid

/-- An atom: its origin's Client and Seq, its number, its code point. -/
structure Atm where
  c : Int
  q : Int
  n : Int
  z : Int
/-- Atoms of code points, numbered on from n. -/
def atG (c q : Int) : Int → List Int → List Atm
  | _, [] => []
  | n, z :: zs => ⟨c, q, n, z⟩ :: atG c q (n + 1) zs
theorem atG_len (c q : Int) : ∀ (n : Int) (zs : List Int), (atG c q n zs).length = zs.length
  | _, [] => rfl
  | n, z :: zs => by simp [atG, atG_len c q (n + 1) zs]
theorem atG_append (c q : Int) : ∀ (n : Int) (a b : List Int), atG c q n (a ++ b) = atG c q n a ++ atG c q (n + a.length) b
  | n, [], b => by simp [atG]
  | n, z :: a, b => by
    have h : n + ((z :: a).length : Int) = n + 1 + (a.length : Int) := by simp; omega
    rw [h]
    simp [atG, atG_append c q (n + 1) a b]
theorem atG_take (c q : Int) : ∀ (n : Int) (zs : List Int) (k : Nat), (atG c q n zs).take k = atG c q n (zs.take k)
  | n, [], k => by simp [atG]
  | n, z :: zs, 0 => by simp [atG]
  | n, z :: zs, k + 1 => by simp [atG, atG_take c q (n + 1) zs k]
theorem atG_drop (c q : Int) : ∀ (n : Int) (zs : List Int) (k : Nat), k ≤ zs.length → (atG c q n zs).drop k = atG c q (n + k) (zs.drop k)
  | n, zs, 0, _ => by simp
  | n, [], k + 1, h => by simp at h
  | n, z :: zs, k + 1, h => by
    have e : n + ((k + 1 : Nat) : Int) = n + 1 + (k : Int) := by omega
    rw [e]
    simp [atG, atG_drop c q (n + 1) zs k (by simpa using h)]
theorem atG_inj {c q : Int} : ∀ {n : Int} {a b : List Int}, atG c q n a = atG c q n b → a = b
  | _, [], [], _ => rfl
  | _, [], _ :: _, h => by simp [atG] at h
  | _, _ :: _, [], h => by simp [atG] at h
  | n, x :: a, y :: b, h => by
    simp only [atG, List.cons.injEq, Atm.mk.injEq, true_and] at h
    rw [h.1, atG_inj h.2]

/-- The atoms of a run, of runs. -/
def RunD.ats (r : RunD) : List Atm := atG r.c r.q r.f (pts r.t)
def ats (l : List RunD) : List Atm := (l.map RunD.ats).flatten
theorem ats_nil : ats [] = [] := rfl
theorem ats_cons (r : RunD) (l : List RunD) : ats (r :: l) = r.ats ++ ats l := by simp [ats]
theorem ats_append (a b : List RunD) : ats (a ++ b) = ats a ++ ats b := by simp [ats]
theorem ats_len (r : RunD) (h : 0 ≤ cpl r.t) : (r.ats.length : Int) = cpl r.t := by rw [RunD.ats, atG_len]; exact pts_len h

/-- A run with atoms. -/
def RunD.Ok (r : RunD) : Prop := 0 < cpl r.t
theorem pts_inj {a b : ByteArray} (ha : 0 ≤ cpl a) (hb : 0 ≤ cpl b) (h : pts a = pts b) : a = b := by
  have h1 := ins_enc ha
  have h2 := ins_enc hb
  rw [h, ← h2] at h1
  exact ByteArray.ext (Array.toList_inj.1 h1)

/-- Runs as they must stand: each has atoms, and none goes on the one ahead of it. -/
def Can : List RunD → Prop
  | [] => True
  | [r] => r.Ok
  | a :: r :: l => a.Ok ∧ nxR a r = false ∧ Can (r :: l)
theorem Can.tail {r : RunD} {l : List RunD} (h : Can (r :: l)) : Can l := by
  cases l with
  | nil => trivial
  | cons b l => exact h.2.2
theorem Can.head {r : RunD} {l : List RunD} (h : Can (r :: l)) : r.Ok := by
  cases l with
  | nil => exact h
  | cons b l => exact h.1
theorem Can.all : ∀ {l : List RunD}, Can l → ∀ r ∈ l, r.Ok
  | [], _, r, hr => by simp at hr
  | a :: l, h, r, hr => by
    rcases List.mem_cons.1 hr with rfl | hr
    · exact h.head
    · exact Can.all h.tail r hr

theorem pts_pos {r : RunD} (h : r.Ok) : 0 < (pts r.t).length := by
  have := pts_len (t := r.t) (by unfold RunD.Ok at h; omega)
  unfold RunD.Ok at h
  omega

/-- The first atom behind a run is not the next one of its own. -/
theorem can_first {r : RunD} {l : List RunD} (h : Can (r :: l)) (a : Atm) (ha : (ats l).head? = some a) : ¬ (a.c = r.c ∧ a.q = r.q ∧ a.n = r.f + (pts r.t).length) := by
  cases l with
  | nil => simp [ats] at ha
  | cons b l =>
    obtain ⟨h1, h2, h3⟩ := h
    have hb := pts_pos h3.head
    have hl := pts_len (t := r.t) (by unfold RunD.Ok at h1; omega)
    rw [ats_cons, RunD.ats] at ha
    cases hp : pts b.t with
    | nil => rw [hp] at hb; simp at hb
    | cons z zs =>
      rw [hp] at ha
      simp [atG] at ha
      subst ha
      simp only
      rw [hl]
      exact nxR_no.1 h2

/-- Atoms tell the runs. -/
theorem can_inj : ∀ {a b : List RunD}, Can a → Can b → ats a = ats b → a = b
  | [], [], _, _, _ => rfl
  | [], r :: b, _, hb, h => by
    have := pts_pos hb.head
    have e := congrArg List.length h
    rw [ats_cons, List.length_append, RunD.ats, atG_len, ats_nil, List.length_nil] at e
    omega
  | r :: a, [], ha, _, h => by
    have := pts_pos ha.head
    have e := congrArg List.length h
    rw [ats_cons, List.length_append, RunD.ats, atG_len, ats_nil, List.length_nil] at e
    omega
  | r :: a, s :: b, ha, hb, h => by
    have k1 := pts_pos ha.head
    have k2 := pts_pos hb.head
    have o1 := ha.head
    have o2 := hb.head
    unfold RunD.Ok at o1 o2
    rw [ats_cons, ats_cons, RunD.ats, RunD.ats] at h
    have hfirst : r.c = s.c ∧ r.q = s.q ∧ r.f = s.f := by
      cases hp : pts r.t with
      | nil => rw [hp] at k1; simp at k1
      | cons z zs =>
        cases hq : pts s.t with
        | nil => rw [hq] at k2; simp at k2
        | cons y ys =>
          rw [hp, hq] at h
          simp only [atG, List.cons_append, List.cons.injEq, Atm.mk.injEq] at h
          exact ⟨h.1.1, h.1.2.1, h.1.2.2.1⟩
    obtain ⟨e1, e2, e3⟩ := hfirst
    have hlen : (pts r.t).length = (pts s.t).length := by
      rcases Nat.lt_trichotomy (pts r.t).length (pts s.t).length with hlt | he | hgt
      · exfalso
        have hd := congrArg (List.drop (pts r.t).length) h
        rw [List.drop_append_of_le_length (by rw [atG_len]; omega), List.drop_of_length_le (by rw [atG_len]; omega), List.nil_append, List.drop_append_of_le_length (by rw [atG_len]; omega), atG_drop _ _ _ _ _ (by omega)] at hd
        cases hx : (pts s.t).drop (pts r.t).length with
        | nil => have := congrArg List.length hx; simp at this; omega
        | cons z zs =>
          rw [hx] at hd
          have := can_first ha ⟨s.c, s.q, s.f + ((pts r.t).length : Int), z⟩ (by rw [hd]; rfl)
          exact this ⟨e1.symm, e2.symm, by simp only [e3]⟩
      · exact he
      · exfalso
        have hd := congrArg (List.drop (pts s.t).length) h
        rw [List.drop_append_of_le_length (l₁ := atG s.c s.q s.f (pts s.t)) (by rw [atG_len]; omega), List.drop_of_length_le (l := atG s.c s.q s.f (pts s.t)) (by rw [atG_len]; omega), List.nil_append, List.drop_append_of_le_length (by rw [atG_len]; omega), atG_drop _ _ _ _ _ (by omega)] at hd
        cases hx : (pts r.t).drop (pts s.t).length with
        | nil => have := congrArg List.length hx; simp at this; omega
        | cons z zs =>
          rw [hx] at hd
          have := can_first hb ⟨r.c, r.q, r.f + ((pts s.t).length : Int), z⟩ (by rw [← hd]; rfl)
          exact this ⟨e1, e2, by simp only [e3]⟩
    have hsplit := List.append_inj h (by rw [atG_len, atG_len]; exact hlen)
    have hp : pts r.t = pts s.t := by
      have := hsplit.1
      rw [e1, e2, e3] at this
      exact atG_inj this
    have ht : r.t = s.t := pts_inj (by omega) (by omega) hp
    have hrs : r = s := by
      obtain ⟨rc, rq, rf, rt⟩ := r
      obtain ⟨sc, sq, sf, st⟩ := s
      simp only at e1 e2 e3 ht
      rw [e1, e2, e3, ht]
    rw [hrs, can_inj ha.tail hb.tail hsplit.2]
end Go.Proofs.YtofmficdfkeffaaDoor
