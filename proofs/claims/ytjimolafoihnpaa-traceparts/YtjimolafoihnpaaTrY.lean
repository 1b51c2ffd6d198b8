/-
  The program's goOn (row's closure), as data; what it changes in the world.
-/
import Derived.Test.YtjimolafoihnpaaTrX
import Derived.Test.YtjimolafoihnpaaTrT
import Derived.WalkSmall
namespace Go.Proofs.Ytjimolafoihnpaa.tc
open Go.Maps Go.ChangeShapes Go.WideShapes Go.ChangeAt Go.RowKit Go.PlainAid

/-- How far row is. -/
structure Gs where
  at' : List Nat
  cm : List Nat
  row : List Nat
  lt : List Nat
/-- goOn of a document; `f`: how much deeper calls may be nested. -/
def goO (D : List (List (Nat × Int))) (H : List (List Nat)) : Nat → Nat → Gs → Option Gs
  | f, d, s =>
    match D[d]?, s.at'[d]? with
    | some r, some a =>
      if a = r.length then some s
      else match f with
        | 0 => if s.lt.length < 1048576 then some { s with lt := s.lt ++ [d] } else none
        | f + 1 =>
          match r[a]? with
          | none => none
          | some x =>
            match s.cm[x.1]?, H[x.1]? with
            | some c, some h =>
              if c + 1 < h.length then some { s with cm := s.cm.set x.1 (c + 1) }
              else if c + 1 = h.length ∧ s.row.length < 1048576 then
                h.foldlM (fun s o => match s.at'[o]? with
                  | some b => if b < 1048576 then goO D H f o { s with at' := s.at'.set o (b + 1) } else none
                  | none => none) { s with cm := s.cm.set x.1 (c + 1), row := s.row ++ [x.1] }
              else none
            | _, _ => none
    | _, _ => none
/-- One of those that have a name. -/
def stO (D : List (List (Nat × Int))) (H : List (List Nat)) (f : Nat) (s : Gs) (o : Nat) : Option Gs :=
  match s.at'[o]? with
  | some b => if b < 1048576 then goO D H f o { s with at' := s.at'.set o (b + 1) } else none
  | none => none

/-- Numbers as cells. -/
def cv (l : List Nat) : List Value := l.map fun n : Nat => .int .i64 (n : Int)
theorem cv_flat (l : List Nat) : (l.map cD).flatten = cv l := by
  induction l with
  | nil => rfl
  | cons a l ih => rw [List.map_cons, List.flatten_cons, ih]; rfl
theorem cv_at {l : List Nat} {i a : Nat} (h : l[i]? = some a) : (cv l)[i]? = some (.int .i64 (a : Int)) := by simp [cv, h]
theorem cv_set (l : List Nat) (i a : Nat) : (cv l).set i (.int .i64 (a : Int)) = cv (l.set i a) := by simp [cv, List.map_set]
theorem cv_app (l : List Nat) (a : Nat) : cv (l ++ [a]) = cv l ++ [.int .i64 (a : Int)] := by simp [cv]
theorem cv_len (l : List Nat) : (cv l).length = l.length := by simp [cv]

/-- The closure. -/
def clo (q b1 : Nat) : Value := .func (.func 31) #[] #[.pointer (some ⟨q + 4, 0, none⟩), .pointer (some ⟨b1, 0, none⟩), .pointer (some ⟨q + 6, 0, none⟩), .pointer (some ⟨q + 2, 0, none⟩), .pointer (some ⟨q, 0, none⟩), .pointer (some ⟨q + 5, 0, none⟩), .pointer (some ⟨q + 7, 0, none⟩)]
/-- It in the world. -/
structure Gw (w1 W : World) (q b1 nD nN : Nat) (vh : Value) (s : Gs) (vr vl : Value) : Prop where
  bel : Below q w1 W
  hav : W.heap[q]? = some (.cells #[vh] 83 (0, 0))
  cam : W.ownsRow q 3 1 (.slice (some ⟨q + 1, 0, none⟩) nN nN) nN (cv s.cm)
  camB : W.heap[q + 2]? = some (.cells #[.slice (some ⟨q + 1, 0, none⟩) nN nN] 29 (0, 0))
  att : W.ownsRow q 3 1 (.slice (some ⟨q + 3, 0, none⟩) nD nD) nD (cv s.at')
  attB : W.heap[q + 4]? = some (.cells #[.slice (some ⟨q + 3, 0, none⟩) nD nD] 29 (0, 0))
  rowB : W.heap[q + 5]? = some (.cells #[vr] 29 (0, 0))
  latB : W.heap[q + 6]? = some (.cells #[vl] 29 (0, 0))
  gob : W.heap[q + 7]? = some (.cells #[clo q b1] 85 (0, 0))
  row : W.ownsRow (q + 8) 3 1 vr s.row.length (cv s.row)
  lat : W.ownsRow (q + 8) 3 1 vl s.lt.length (cv s.lt)
  ne : vr.ownBlock = none ∨ vr.ownBlock ≠ vl.ownBlock
theorem hp_kept {W W' : World} {r : Option Nat} {k : Nat} {o : Obj} (hg : W.grownBy W' r) (h : W.heap[k]? = some o) (hne : some k ≠ r) : W'.heap[k]? = some o := (hg.block k (lt_heap h) hne).trans h
theorem Gw.below {w1 W W' : World} {q b1 nD nN : Nat} {vh : Value} {s : Gs} {vr vl : Value} (h : Gw w1 W q b1 nD nN vh s vr vl) (hb : Below W.heap.size W W') : Gw w1 W' q b1 nD nN vh s vr vl := by
  have k : ∀ {i : Nat} {o : Obj}, W.heap[i]? = some o → W'.heap[i]? = some o := fun e => (hb.block _ (lt_heap e)).trans e
  have hq : q ≤ W.heap.size := Nat.le_of_lt (lt_heap h.hav)
  exact ⟨h.bel.trans (hb.mono hq), k h.hav, own_below h.cam hb, k h.camB, own_below h.att hb, k h.attB, k h.rowB, k h.latB, k h.gob, own_below h.row hb, own_below h.lat hb, h.ne⟩
theorem ne_sym {a b : Option Nat} (h : a = none ∨ a ≠ b) : b = none ∨ b ≠ a := by
  rcases h with h | h
  · cases b
    · exact .inl rfl
    · right; rw [h]; simp
  · exact .inr fun e => h e.symm
theorem own_ge {W : World} {B e z n : Nat} {v : Value} {L : List Value} (h : W.ownsRow B e z v n L) (k : Nat) (hk : k < B) : some k ≠ v.ownBlock := fun e => by
  have := (h.lt k e.symm).1
  omega
theorem Gw.setAt {w1 W : World} {q b1 nD nN : Nat} {vh : Value} {s : Gs} {vr vl : Value} (h : Gw w1 W q b1 nD nN vh s vr vl) (d a : Nat) : Gw w1 (W.setCell ⟨q + 3, d, none⟩ (.int .i64 (a : Int))) q b1 nD nN vh { s with at' := s.at'.set d a } vr vl := by
  obtain ⟨h1, hg⟩ := h.att.stored d (.int .i64 (a : Int))
  rw [cv_set] at h1
  have k : ∀ {i : Nat} {o : Obj}, i ≠ q + 3 → W.heap[i]? = some o → (W.setCell ⟨q + 3, d, none⟩ (.int .i64 (a : Int))).heap[i]? = some o := fun hne e => hp_kept hg e (by simpa using hne)
  refine ⟨h.bel.grown hg (Nat.le_of_lt (lt_heap h.hav)) (fun k hk => by injection hk with hk; omega), k (by omega) h.hav, h.cam.kept hg (.inr (by simp [Value.ownBlock])), k (by omega) h.camB, h1, k (by omega) h.attB, k (by omega) h.rowB, k (by omega) h.latB, k (by omega) h.gob, h.row.kept hg (.inr fun e => own_ge h.row (q + 3) (by omega) e.symm), h.lat.kept hg (.inr fun e => own_ge h.lat (q + 3) (by omega) e.symm), h.ne⟩
theorem Gw.setCm {w1 W : World} {q b1 nD nN : Nat} {vh : Value} {s : Gs} {vr vl : Value} (h : Gw w1 W q b1 nD nN vh s vr vl) (d a : Nat) : Gw w1 (W.setCell ⟨q + 1, d, none⟩ (.int .i64 (a : Int))) q b1 nD nN vh { s with cm := s.cm.set d a } vr vl := by
  obtain ⟨h1, hg⟩ := h.cam.stored d (.int .i64 (a : Int))
  rw [cv_set] at h1
  have k : ∀ {i : Nat} {o : Obj}, i ≠ q + 1 → W.heap[i]? = some o → (W.setCell ⟨q + 1, d, none⟩ (.int .i64 (a : Int))).heap[i]? = some o := fun hne e => hp_kept hg e (by simpa using hne)
  refine ⟨h.bel.grown hg (Nat.le_of_lt (lt_heap h.hav)) (fun k hk => by injection hk with hk; omega), k (by omega) h.hav, h1, k (by omega) h.camB, h.att.kept hg (.inr (by simp [Value.ownBlock])), k (by omega) h.attB, k (by omega) h.rowB, k (by omega) h.latB, k (by omega) h.gob, h.row.kept hg (.inr fun e => own_ge h.row (q + 1) (by omega) e.symm), h.lat.kept hg (.inr fun e => own_ge h.lat (q + 1) (by omega) e.symm), h.ne⟩
/-- A box of a row is written. -/
theorem Gw.setRow {w1 W W9 : World} {q b1 nD nN : Nat} {vh : Value} {s : Gs} {vr vl : Value} {x g cap : Nat} (h : Gw w1 W q b1 nD nN vh s vr vl) (ho : W9.ownsRow (q + 8) 3 1 (.slice (some ⟨g, 0, none⟩) (s.row.length + 1) cap) (s.row.length + 1) (cv s.row ++ [.int .i64 (x : Int)])) (hg : W.grownBy W9 vr.ownBlock) (hl : vr.ownBlock = some g ∨ g = W.heap.size) :
    Gw w1 (W9.setCell ⟨q + 5, 0, none⟩ (.slice (some ⟨g, 0, none⟩) (s.row.length + 1) cap)) q b1 nD nN vh { s with row := s.row ++ [x] } (.slice (some ⟨g, 0, none⟩) (s.row.length + 1) cap) vl := by
  have hr := fun k hk => own_ge h.row k hk
  have k1 : ∀ {i : Nat} {o : Obj}, i < q + 8 → W.heap[i]? = some o → W9.heap[i]? = some o := fun hi e => hp_kept hg e (hr _ hi)
  have e5 := k1 (by omega) h.rowB
  have hg2 := gb_set W9 (q + 5) 0 (.slice (some ⟨g, 0, none⟩) (s.row.length + 1) cap)
  have k2 : ∀ {i : Nat} {o : Obj}, i < q + 8 → i ≠ q + 5 → W.heap[i]? = some o → (W9.setCell ⟨q + 5, 0, none⟩ (.slice (some ⟨g, 0, none⟩) (s.row.length + 1) cap)).heap[i]? = some o := fun hi hne e => hp_kept hg2 (k1 hi e) (by simpa using hne)
  have hq := Nat.le_of_lt (lt_heap h.hav)
  have o1 : ∀ {v n xs} (c : Nat), W.ownsRow q 3 1 v n xs → v.ownBlock = some c → c < q + 5 → (W9.setCell ⟨q + 5, 0, none⟩ (.slice (some ⟨g, 0, none⟩) (s.row.length + 1) cap)).ownsRow q 3 1 v n xs := fun c a e hc => (a.kept hg (.inr (by rw [e]; exact hr _ (by omega)))).kept hg2 (.inr (by rw [e]; simp; omega))
  refine ⟨(h.bel.grown hg hq (fun k hk => (Nat.lt_or_ge k q).elim (fun h9 => absurd hk.symm (hr k (by omega))) id)).grown hg2 (Nat.le_trans hq hg.size) (fun k hk => by injection hk with hk; omega), k2 (by omega) (by omega) h.hav, o1 (q + 1) h.cam rfl (by omega), k2 (by omega) (by omega) h.camB, o1 (q + 3) h.att rfl (by omega), k2 (by omega) (by omega) h.attB, ?_, k2 (by omega) (by omega) h.latB, k2 (by omega) (by omega) h.gob, ?_, (h.lat.kept hg (ne_sym h.ne)).kept hg2 (.inr fun e => own_ge h.lat (q + 5) (by omega) e.symm), ?_⟩
  · exact hp_set e5 0 _
  · rw [show ({ s with row := s.row ++ [x] } : Gs).row = s.row ++ [x] from rfl, List.length_append, cv_app]
    refine ho.kept hg2 (.inr fun e => own_ge ho (q + 5) (by omega) e.symm)
  · rcases hl with hl | hl
    · rw [show (Value.slice (some ⟨g, 0, none⟩) (s.row.length + 1) cap).ownBlock = some g from rfl, ← hl]
      exact h.ne
    · right
      intro e
      have := (h.lat.lt g e.symm).2
      omega
theorem Gw.setLat {w1 W W9 : World} {q b1 nD nN : Nat} {vh : Value} {s : Gs} {vr vl : Value} {x g cap : Nat} (h : Gw w1 W q b1 nD nN vh s vr vl) (ho : W9.ownsRow (q + 8) 3 1 (.slice (some ⟨g, 0, none⟩) (s.lt.length + 1) cap) (s.lt.length + 1) (cv s.lt ++ [.int .i64 (x : Int)])) (hg : W.grownBy W9 vl.ownBlock) (hl : vl.ownBlock = some g ∨ g = W.heap.size) :
    Gw w1 (W9.setCell ⟨q + 6, 0, none⟩ (.slice (some ⟨g, 0, none⟩) (s.lt.length + 1) cap)) q b1 nD nN vh { s with lt := s.lt ++ [x] } vr (.slice (some ⟨g, 0, none⟩) (s.lt.length + 1) cap) := by
  have hr := fun k hk => own_ge h.lat k hk
  have k1 : ∀ {i : Nat} {o : Obj}, i < q + 8 → W.heap[i]? = some o → W9.heap[i]? = some o := fun hi e => hp_kept hg e (hr _ hi)
  have e5 := k1 (by omega) h.latB
  have hg2 := gb_set W9 (q + 6) 0 (.slice (some ⟨g, 0, none⟩) (s.lt.length + 1) cap)
  have k2 : ∀ {i : Nat} {o : Obj}, i < q + 8 → i ≠ q + 6 → W.heap[i]? = some o → (W9.setCell ⟨q + 6, 0, none⟩ (.slice (some ⟨g, 0, none⟩) (s.lt.length + 1) cap)).heap[i]? = some o := fun hi hne e => hp_kept hg2 (k1 hi e) (by simpa using hne)
  have hq := Nat.le_of_lt (lt_heap h.hav)
  have o1 : ∀ {v n xs} (c : Nat), W.ownsRow q 3 1 v n xs → v.ownBlock = some c → c < q + 5 → (W9.setCell ⟨q + 6, 0, none⟩ (.slice (some ⟨g, 0, none⟩) (s.lt.length + 1) cap)).ownsRow q 3 1 v n xs := fun c a e hc => (a.kept hg (.inr (by rw [e]; exact hr _ (by omega)))).kept hg2 (.inr (by rw [e]; simp; omega))
  refine ⟨(h.bel.grown hg hq (fun k hk => (Nat.lt_or_ge k q).elim (fun h9 => absurd hk.symm (hr k (by omega))) id)).grown hg2 (Nat.le_trans hq hg.size) (fun k hk => by injection hk with hk; omega), k2 (by omega) (by omega) h.hav, o1 (q + 1) h.cam rfl (by omega), k2 (by omega) (by omega) h.camB, o1 (q + 3) h.att rfl (by omega), k2 (by omega) (by omega) h.attB, k2 (by omega) (by omega) h.rowB, ?_, k2 (by omega) (by omega) h.gob, (h.row.kept hg h.ne).kept hg2 (.inr fun e => own_ge h.row (q + 6) (by omega) e.symm), ?_, ?_⟩
  · exact hp_set e5 0 _
  · rw [show ({ s with lt := s.lt ++ [x] } : Gs).lt = s.lt ++ [x] from rfl, List.length_append, cv_app]
    refine ho.kept hg2 (.inr fun e => own_ge ho (q + 6) (by omega) e.symm)
  · rcases hl with hl | hl
    · rw [show (Value.slice (some ⟨g, 0, none⟩) (s.lt.length + 1) cap).ownBlock = some g from rfl, ← hl]
      exact h.ne
    · right
      intro e
      have := (h.row.lt g e).2
      omega
/-- The last of those that come later is taken. -/
theorem Gw.popLat {w1 W : World} {q b1 nD nN : Nat} {vh : Value} {s : Gs} {vr : Value} {l : List Nat} {x g cap : Nat} (h : Gw w1 W q b1 nD nN vh s vr (.slice (some ⟨g, 0, none⟩) (l.length + 1) cap)) (hs : s.lt = l ++ [x]) :
    Gw w1 (W.setCell ⟨q + 6, 0, none⟩ (.slice (some ⟨g, 0, none⟩) l.length cap)) q b1 nD nN vh { s with lt := l } vr (.slice (some ⟨g, 0, none⟩) l.length cap) := by
  have hg2 := gb_set W (q + 6) 0 (.slice (some ⟨g, 0, none⟩) l.length cap)
  have k2 : ∀ {i : Nat} {o : Obj}, i ≠ q + 6 → W.heap[i]? = some o → (W.setCell ⟨q + 6, 0, none⟩ (.slice (some ⟨g, 0, none⟩) l.length cap)).heap[i]? = some o := fun hne e => hp_kept hg2 e (by simpa using hne)
  have hq := Nat.le_of_lt (lt_heap h.hav)
  have hl := h.lat
  rw [hs, List.length_append, cv_app] at hl
  have hp := ownsRow_pop (by rw [cv_len]; omega) hl
  refine ⟨h.bel.grown hg2 hq (fun k hk => by injection hk with hk; omega), k2 (by omega) h.hav, h.cam.kept hg2 (.inr (by simp [Value.ownBlock])), k2 (by omega) h.camB, h.att.kept hg2 (.inr (by simp [Value.ownBlock])), k2 (by omega) h.attB, k2 (by omega) h.rowB, hp_set h.latB 0 _, k2 (by omega) h.gob, h.row.kept hg2 (.inr fun e => own_ge h.row (q + 6) (by omega) e.symm), hp.kept hg2 (.inr fun e => own_ge hp (q + 6) (by omega) e.symm), h.ne⟩
end Go.Proofs.Ytjimolafoihnpaa.tc
