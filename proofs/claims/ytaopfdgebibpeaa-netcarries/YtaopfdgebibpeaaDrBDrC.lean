/-
  The contract of the reference's Encode.
-/
import Derived.Test.YtaopfdgebibpeaaDrA
import Derived.Test.YtaopfdgebibpeaaPkMarked
import Derived.Test.YtaopfdgebibpeaaPkRefW
namespace Go.Proofs.Ytaopfdgebibpeaa
open Go.ChangeShapes Go.WideShapes Go.ChangeAt Go.RowKit Go.PlainAid

theorem conv_made (l : List UInt8) (base : Nat) (w : World) (hb : base ≤ w.heap.size) (hl : l.length ≤ maxLen) :
    ∃ v0 w0, (convert 9 54 (.string (mk l))).run Try.prog w = .ok v0 w0 ∧ pk.OwnM w0 base v0 l ∧ Below w.heap.size w w0 := by
  refine ⟨_, _, run_bytes_of_string w 9 54 5 (mk l) Try.underlying9 Try.underlying54 Try.underlying5, ?_, ?_⟩
  · have := pk.made_marked w (mk l) base hb (by rw [mk_size]; exact hl)
    rw [mk_toList] at this
    exact this
  · exact Below.alloc (Below.refl _ w).drew (Nat.le_refl _) _
theorem ownM_lt {w : World} {base : Nat} {v : Value} {l : List UInt8} (h : pk.OwnM w base v l) : ∀ k, v.ownBlock = some k → base ≤ k := by
  obtain ⟨g, cap, cur, fz, rfl, hbg, _⟩ := h
  intro k hk
  simp [Value.ownBlock] at hk
  omega
theorem ownM_below {w w' : World} {base : Nat} {v : Value} {l : List UInt8} (h : pk.OwnM w base v l) (hb : Below w.heap.size w w') : pk.OwnM w' base v l := by
  obtain ⟨g, cap, cur, fz, rfl, hbg, hg, rest⟩ := h
  refine ⟨g, cap, cur, fz, rfl, hbg, ?_, rest⟩
  rw [hb.block g (Array.getElem?_eq_some_iff.1 hg).1]
  exact hg

end Go.Proofs.Ytaopfdgebibpeaa

/-
  The contract of the reference's Decode.
-/
namespace Go.Proofs.Ytaopfdgebibpeaa
open Go.ChangeShapes Go.WideShapes Go.ChangeAt Go.RowKit Go.PlainAid

/-- An operation, as the reference reads it. -/
def rdO (s : ByteArray) (a : Int) : Option (OpD × Int) :=
  if (pk.tk s a 1125899906842624).2.2 ≠ 0 then none
  else if (pk.tk s a 1125899906842624).1 = 2 then
    (if (pk.tkT s (pk.tk s a 1125899906842624).2.1).2.2 ≠ 0 then none else some (⟨2, 0, (pk.tkT s (pk.tk s a 1125899906842624).2.1).1⟩, (pk.tkT s (pk.tk s a 1125899906842624).2.1).2.1))
  else if (pk.tk s (pk.tk s a 1125899906842624).2.1 1125899906842624).2.2 ≠ 0 then none
  else some (⟨(pk.tk s a 1125899906842624).1, (pk.tk s (pk.tk s a 1125899906842624).2.1 1125899906842624).1, ⟨#[]⟩⟩, (pk.tk s (pk.tk s a 1125899906842624).2.1 1125899906842624).2.1)
def refGo (s : ByteArray) : Nat → Int → List OpD → Option (List OpD × Int)
  | 0, a, acc => some (acc, a)
  | n + 1, a, acc => match rdO s a with
    | none => none
    | some (o, q) => refGo s n q (acc ++ [o])
def refF (s : ByteArray) : Option (List OpD × Int) → List OpD × Int
  | none => ([], 90)
  | some (D, _) => if (encR D).2 ≠ 0 ∨ (encR D).1 ≠ s then ([], 90) else (D, 0)
def refR (s : ByteArray) : List OpD × Int :=
  if (pk.tk s 0 1125899906842624).2.2 ≠ 0 ∨ 3000 < (pk.tk s 0 1125899906842624).1 then ([], 90)
  else refF s (refGo s (pk.tk s 0 1125899906842624).1.toNat (pk.tk s 0 1125899906842624).2.1 [])

/-- The one reading and the other. -/
theorem rdO_rel (s : ByteArray) (a : Int) : (∀ st q, tkS s a = some (st, q) → rdO s a = some (st.op, q)) ∧ (tkS s a = none → rdO s a = none ∨ ∃ o q, rdO s a = some (o, q) ∧ stOf o = none) := by
  rcases pk.tk_cases s a 1125899906842624 with ⟨k, p, hr, _⟩ | ⟨er, hr, her⟩
  · by_cases k2 : (k : Int) = 2
    · rcases tkT_cases s (p : Int) with ⟨t, q, ht⟩ | ⟨e, ht, he⟩
      · have e1 : tkS s a = some (.ins t, q) := by
          rw [tkS, hr]
          simp only
          rw [if_neg (by simp), if_pos k2, ht]
          simp
        have e2 : rdO s a = some (⟨2, 0, t⟩, q) := by
          rw [rdO, hr]
          simp only
          rw [if_neg (by simp), if_pos k2, ht]
          simp
        rw [e1, e2]
        exact ⟨fun st q' h => by simp at h; obtain ⟨rfl, rfl⟩ := h; rfl, fun h => by simp at h⟩
      · have e1 : tkS s a = none := by
          rw [tkS, hr]
          simp only
          rw [if_neg (by simp), if_pos k2, ht]
          simp [he]
        have e2 : rdO s a = none := by
          rw [rdO, hr]
          simp only
          rw [if_neg (by simp), if_pos k2, ht]
          simp [he]
        rw [e1, e2]
        exact ⟨fun st q' h => by simp at h, fun _ => .inl rfl⟩
    · rcases pk.tk_cases s (p : Int) 1125899906842624 with ⟨n, q, hq, _⟩ | ⟨e, hq, he⟩
      · have e2 : rdO s a = some (⟨(k : Int), (n : Int), ⟨#[]⟩⟩, (q : Int)) := by
          rw [rdO, hr]
          simp only
          rw [if_neg (by simp), if_neg k2, hq]
          simp
        have e1 : tkS s a = if (k : Int) = 1 then some (.keep n, (q : Int)) else if (k : Int) = 3 then some (.rem n, (q : Int)) else none := by
          rw [tkS, hr]
          simp only
          rw [if_neg (by simp), if_neg k2, hq]
          simp
        rw [e1, e2]
        by_cases k1 : (k : Int) = 1
        · rw [if_pos k1]
          refine ⟨fun st q' h => ?_, fun h => by simp at h⟩
          simp at h
          obtain ⟨rfl, rfl⟩ := h
          rw [k1]; rfl
        · rw [if_neg k1]
          by_cases k3 : (k : Int) = 3
          · rw [if_pos k3]
            refine ⟨fun st q' h => ?_, fun h => by simp at h⟩
            simp at h
            obtain ⟨rfl, rfl⟩ := h
            rw [k3]; rfl
          · rw [if_neg k3]
            refine ⟨fun st q' h => by simp at h, fun _ => .inr ⟨_, _, rfl, ?_⟩⟩
            simp only [stOf]
            rw [if_neg k1, if_neg k3]
            split
            · rfl
            · rw [if_neg (fun h => k2 h.1)]
      · have e1 : tkS s a = none := by
          rw [tkS, hr]
          simp only
          rw [if_neg (by simp), if_neg k2, hq, if_pos (by simp only; omega)]
        have e2 : rdO s a = none := by
          rw [rdO, hr]
          simp only
          rw [if_neg (by simp), if_neg k2, hq, if_pos (by simp only; omega)]
        rw [e1, e2]
        exact ⟨fun st q' h => by simp at h, fun _ => .inl rfl⟩
  · have e1 : tkS s a = none := by rw [tkS, hr, if_pos (by simp only; omega)]
    have e2 : rdO s a = none := by rw [rdO, hr, if_pos (by simp only; omega)]
    rw [e1, e2]
    exact ⟨fun st q' h => by simp at h, fun _ => .inl rfl⟩
theorem refGo_pre (s : ByteArray) : ∀ (n : Nat) (a : Int) (acc D : List OpD) (b : Int), refGo s n a acc = some (D, b) → ∀ o ∈ acc, o ∈ D
  | 0, a, acc, D, b, h => by simp [refGo] at h; rw [h.1]; exact fun o ho => ho
  | n + 1, a, acc, D, b, h => by
    rw [refGo] at h
    cases hr : rdO s a with
    | none => rw [hr] at h; simp at h
    | some r =>
      obtain ⟨o', q⟩ := r
      rw [hr] at h
      exact fun o ho => refGo_pre s n q _ D b h o (by simp [ho])
theorem go_rel (s : ByteArray) : ∀ (n : Nat) (a : Int) (acc : List St),
    (∀ l b, decGo s n a acc = some (l, b) → refGo s n a (acc.map St.op) = some (l.map St.op, b)) ∧
    (decGo s n a acc = none → refGo s n a (acc.map St.op) = none ∨ ∃ D b, refGo s n a (acc.map St.op) = some (D, b) ∧ ∃ o ∈ D, stOf o = none)
  | 0, a, acc => by
    refine ⟨fun l b h => ?_, fun h => by simp [decGo] at h⟩
    simp [decGo] at h
    rw [refGo, h.1, h.2]
  | n + 1, a, acc => by
    have hrel := rdO_rel s a
    rw [decGo, refGo]
    cases ht : tkS s a with
    | some r =>
      obtain ⟨st, q⟩ := r
      rw [hrel.1 st q ht]
      have ih := go_rel s n q (acc ++ [st])
      simp only [List.map_append, List.map_cons, List.map_nil] at ih
      exact ih
    | none =>
      refine ⟨fun l b h => by simp at h, fun _ => ?_⟩
      rcases hrel.2 ht with h | ⟨o, q, h, ho⟩
      · rw [h]; exact .inl rfl
      · rw [h]
        simp only
        cases hg : refGo s n q (acc.map St.op ++ [o]) with
        | none => exact .inl rfl
        | some r =>
          obtain ⟨D, b⟩ := r
          exact .inr ⟨D, b, rfl, o, refGo_pre s n q _ D b hg o (by simp), ho⟩
theorem op_inj {a b : St} (h : a.op = b.op) : a = b := by
  cases a <;> cases b <;> simp [St.op] at h <;> simp <;> first | exact h | omega
theorem map_op_inj : ∀ {a b : List St}, a.map St.op = b.map St.op → a = b
  | [], [], _ => rfl
  | [], _ :: _, h => by simp at h
  | _ :: _, [], h => by simp at h
  | x :: a, y :: b, h => by
    simp only [List.map_cons, List.cons.injEq] at h
    rw [op_inj h.1, map_op_inj h.2]
theorem decGo_of {s : ByteArray} : ∀ (n : Nat) (b : Nat) (acc l : List St) (q : Int), b ≤ s.size → decGo s n (b : Int) acc = some (l, q) → ∃ m, l = acc ++ m ∧ m.length = n ∧ (∀ st ∈ m, st.Raw) ∧ At s b (stsB m) ∧ q = ((b + (stsB m).length : Nat) : Int)
  | 0, b, acc, l, q, hb, h => by
    simp [decGo] at h
    obtain ⟨rfl, rfl⟩ := h
    exact ⟨[], by simp, rfl, by simp, at_nil s b hb, by simp [stsB]⟩
  | n + 1, b, acc, l, q, hb, h => by
    rw [decGo] at h
    cases ht : tkS s (b : Int) with
    | none => rw [ht] at h; simp at h
    | some r =>
      obtain ⟨st, q'⟩ := r
      rw [ht] at h
      obtain ⟨b', e1, hraw, hat, e2⟩ := tkS_of ht
      have hbb : b' = b := by omega
      subst hbb
      subst e2
      obtain ⟨m, h1, h2, h3, h4, h5⟩ := decGo_of n (b' + (stB st).length) _ l q (by have := hat.1; omega) h
      have e : stsB (st :: m) = stB st ++ stsB m := by simp [stsB]
      refine ⟨st :: m, by rw [h1]; simp, by simp [h2], fun x hx => ?_, by rw [e]; exact at_append.2 ⟨hat, h4⟩, by rw [h5, e, List.length_append]; omega⟩
      rcases List.mem_cons.1 hx with rfl | hx
      · exact hraw
      · exact h3 x hx
/-- The document's reading is the program's. -/
theorem ref_dec (s : ByteArray) : refR s = decR s := by
  rw [refR, decR]
  rcases pk.tk_cases s 0 1125899906842624 with ⟨n, p, hr, hk, _, hp, _⟩ | ⟨er, hr, her⟩
  · obtain ⟨b, m, e1, e2, _, h3, h4⟩ := pk.tk_of (by decide) hr
    have hb : b = 0 := by omega
    subst hb
    have hm : m = n := by omega
    subst hm
    rw [hr]
    simp only
    by_cases hbig : (3000 : Int) < (m : Int)
    · rw [if_pos (.inr hbig), if_pos (.inr hbig)]
    · rw [if_neg (by omega), if_neg (by omega), Int.toNat_natCast]
      have hrel := go_rel s m (p : Int) []
      simp only [List.map_nil] at hrel
      cases hd : decGo s m (p : Int) [] with
      | none =>
        rcases hrel.2 hd with h | ⟨D, b, h, o, ho, hs⟩
        · rw [h]; rfl
        · rw [h]
          have hne : chk D ≠ 0 := fun h0 => by
            have := (chk_any h0).1
            rw [List.any_eq_false] at this
            exact this o ho (by rw [hs]; rfl)
          simp only [refF, decF]
          rw [if_pos (.inl (by rw [encR, if_neg hne]; exact hne))]
      | some r =>
        obtain ⟨l, q⟩ := r
        rw [hrel.1 l q hd]
        obtain ⟨l', e3, hl, hraw, hat, hq⟩ := decGo_of m p [] l q hp hd
        rw [List.nil_append] at e3
        subst e3
        simp only [refF, decF]
        by_cases hc : chk (l.map St.op) = 0
        · have hst : stR (l.map St.op) = l := map_op_inj (stR_op hc)
          have hE : encR (l.map St.op) = (mk (encB l), 0) := by rw [encR, if_pos hc, hst]
          have hall : At s 0 (encB l) := by
            rw [encB, hl]
            refine at_append.2 ⟨h3, ?_⟩
            have : (0 + (numB m).length : Nat) = p := by omega
            rw [this]; exact hat
          have hlen : (encB l).length = q.toNat := by rw [encB, List.length_append, hl]; omega
          rw [hE]
          by_cases hqs : q = (s.size : Int)
          · have hex := at_extract hall
            rw [Nat.zero_add, hlen, show q.toNat = s.size by omega, extract_all] at hex
            rw [if_neg (by simp [← hex]), if_neg (by simp [hqs, hc])]
          · have hne : mk (encB l) ≠ s := fun e => by
              have := congrArg ByteArray.size e
              rw [mk_size] at this
              omega
            rw [if_pos (.inr hne), if_pos (.inl hqs)]
        · rw [if_pos (.inl (by rw [encR, if_neg hc]; exact hc)), if_pos (.inr hc)]
  · rw [hr]
    simp only
    rw [if_pos (.inl (by omega)), if_pos (.inl (by omega))]
end Go.Proofs.Ytaopfdgebibpeaa
