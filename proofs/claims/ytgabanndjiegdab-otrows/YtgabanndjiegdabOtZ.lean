/-
  The contract of Invert.
-/
import Derived.Test.YtgabanndjiegdabOtV
import Derived.Test.YtgabanndjiegdabOtK
namespace Go.Proofs.Ytgabanndjiegdab
open Go.ChangeShapes Go.WideShapes Go.ChangeAt Go.RowKit Go.PlainAid

theorem runesFrom_at {s : ByteArray} {n : Nat} (hv : Valid s n) : ∀ (bound k : Nat) (acc : Array Value), k ≤ n → n - k ≤ bound → Conv.runesFrom s bound (pos s k) acc = acc ++ (((List.range' k (n - k)).map fun j => Value.int .i32 (pt s j)).toArray)
  | 0, k, acc, hk, hb => by
    have : n - k = 0 := by omega
    rw [this]
    simp [Conv.runesFrom]
  | b + 1, k, acc, hk, hb => by
    rw [Conv.runesFrom]
    by_cases h : k = n
    · subst h
      rw [if_neg (by rw [hv.2]; omega)]
      simp
    · have h1 := hv.1 k (by omega)
      have hd := dec_pos hv (k := k) (by omega)
      rw [if_pos h1.1]
      simp only
      rw [hd.2.1, show (Int.ofNat (Utf8.decode s (pos s k)).1 : Int) = pt s k from hd.1, runesFrom_at hv b (k + 1) _ (by omega) (by omega), show n - k = (n - (k + 1)) + 1 by omega, List.range'_succ]
      simp
theorem runes_pts {s : ByteArray} (h : 0 ≤ cpl s) : Conv.runesFrom s s.size 0 #[] = ((pts s).map (Value.int .i32)).toArray := by
  have hv := cpl_valid h
  have hp := pos_le hv.1 _ (Nat.le_refl _)
  have := runesFrom_at hv s.size 0 #[] (by omega) (by omega)
  rw [show pos s 0 = 0 from rfl] at this
  rw [this, pts, ptL]
  simp [List.range_eq_range']

/-- What Invert gives. -/
def inR (s : ByteArray) (D : List OpD) : List OpD × Int :=
  if (apR s D).2 = 0 then (jn (stR (invO (pts s) (stR D))), chk (invO (pts s) (stR D))) else ([], (apR s D).2)

theorem rdr_new {W : World} {zs : List Int} {cap : Nat} (hc : zs.length ≤ cap) (e : TypeId) :
    RdR (W.alloc (.cells ((zs.map (Value.int .i32)).toArray ++ Array.replicate (cap - zs.length) (.int .i32 0)) e)) (.slice (some ⟨W.heap.size, 0, none⟩) zs.length cap) zs := by
  refine ⟨_, _, rfl, hc, fun _ => ⟨W.heap.size, 0, rfl, by simp, fun i hi => ?_⟩⟩
  have h := heap_alloc_new W (.cells ((zs.map (Value.int .i32)).toArray ++ Array.replicate (cap - zs.length) (.int .i32 0)) e)
  unfold World.cell?
  rw [h]
  simp only [Nat.zero_add]
  rw [Array.getElem?_append_left (by simpa using hi)]
  simp [hi]

theorem invO_in : ∀ (l : List St) (zs : List Int), zs.length ≤ 1000 → ∀ o ∈ invO zs l, o.In
  | [], _, _, o, ho => by simp [invO] at ho
  | .keep n :: l, zs, h, o, ho => by
    rw [invO] at ho
    rcases List.mem_cons.1 ho with rfl | ho
    · exact Nat.zero_le _
    · exact invO_in l _ (by rw [List.length_drop]; omega) o ho
  | .rem n :: l, zs, h, o, ho => by
    rw [invO] at ho
    rcases List.mem_cons.1 ho with rfl | ho
    · have := enc_len (zs.take n)
      have h2 : (zs.take n).length ≤ 1000 := by rw [List.length_take]; omega
      show (mk _).size ≤ _
      rw [mk_size]
      omega
    · exact invO_in l _ (by rw [List.length_drop]; omega) o ho
  | .ins t :: l, zs, h, o, ho => by
    rw [invO] at ho
    rcases List.mem_cons.1 ho with rfl | ho
    · exact Nat.zero_le _
    · exact invO_in l _ h o ho

theorem apR_zero' {s : ByteArray} {A : List OpD} (h : (apR s A).2 = 0) : 0 ≤ cpl s ∧ chk A = 0 ∧ (bsum (stR A) : Int) = cpl s := by
  rw [apR] at h
  split at h
  · simp at h
  · rename_i c1
    split at h
    · rename_i c2; exact absurd h c2
    · rename_i c2
      split at h
      · simp at h
      · rename_i c3
        exact ⟨by omega, by simpa using c2, by simpa using c3⟩

set_option maxRecDepth 20000 in
set_option maxHeartbeats 2000000 in
theorem invert_any (s : ByteArray) (v : Value) (D : List OpD) (w : World) (hs : s.size ≤ maxLen) (hr : RdD w v D) (hm : D.length ≤ maxLen) (hi : ∀ o ∈ D, o.In) :
    Calls Try.prog 7 #[.string s, v] w fun e w' => ∃ u, e = .returned (.tuple #[u, .int .i64 (inR s D).2]) ∧ w'.ownsRow w.heap.size 35 3 u (inR s D).1.length (ocs (inR s D).1) ∧ Below w.heap.size w w' := by
  have hA := apply_any s v D w hs hr hm hi
  by_cases c : (apR s D).2 = 0
  · obtain ⟨s0, s1, s2⟩ := apR_zero' c
    have HR : Hid (inR s D = (jn (stR (invO (pts s) (stR D))), chk (invO (pts s) (stR D)))) := by show _ = _; rw [inR, if_pos c]
    have hpl := pts_len (t := s) s0
    have hpo := pts_ok s0
    have bd := stR_bd D
    have hln := stR_len D
    have hok := stR_ok hi
    have hsz : (Conv.runesFrom s s.size 0 #[]).size = (pts s).length := by rw [runes_pts s0]; simp
    have hcv := fun (W : World) => run_runes_of_string (P := Try.prog) W 9 58 21 s Try.underlying9 Try.underlying58 Try.underlying21 (by rw [hsz]; omega)
    rw [hsz, runes_pts s0] at hcv
    have hG := fun (W : World) => grownCap_ge W (pts s).length 0 21
    have HD := kstR_op s1
    have hin := invO_in (stR D) (pts s) (by omega)
    have hV := fun (v0 : Value) (W : World) (h0 : RdR W v0 (pts s)) (h1 : RdD W v D) => inverted_any v0 v (pts s) (stR D) W h0 (by rw [HD]; exact h1) (by omega) (fun x hx => ⟨hok x hx, by have := c_le hx; omega⟩) (by omega) (by omega) hpo
    have hlen := invO_len (stR D) (pts s)
    rw [c] at hA
    clear c s0 s1 s2 hpl hpo bd hsz HD
    generalize pts s = zs at *
    generalize (apR s D).1 = t at *
    go_enter Try.func7, Try.ntmps7
    go_wp2_with fail
    refine hA.mono ?_
    rintro e w1 ⟨rfl, hb1⟩
    have hcv1 := hcv w1
    have hg1 := hG w1
    generalize grownCap w1 zs.length 0 21 = gc at *
    have hB2 : Below w1.heap.size w1 (w1.drew.alloc (.cells ((zs.map (Value.int .i32)).toArray ++ Array.replicate (gc - zs.length) (.int .i32 0)) 21)) := ((Below.refl _ _).drew).alloc (Nat.le_refl _) _
    have hI := hV (.slice (some ⟨w1.heap.size, 0, none⟩) zs.length gc) (w1.drew.alloc (.cells ((zs.map (Value.int .i32)).toArray ++ Array.replicate (gc - zs.length) (.int .i32 0)) 21)) (rdr_new (W := w1.drew) hg1 _) ((hr.below hb1).below hB2)
    clear hA hcv hG hV
    go_wp2_with fail
    refine hI.mono ?_
    rintro e w2 ⟨u2, rfl, ho2, hb2⟩
    have hN := normal_any u2 (invO zs (stR D)) w2 (rdd_own ho2) (by unfold maxLen; omega) hin
    clear hI
    go_wp2_with fail
    refine hN.mono ?_
    rintro e w3 ⟨u3, rfl, ho3, hb3⟩
    clear hN
    go_wp2_with fail
    go_ret2
    rw [HR.out]
    have q1 := hb1.size
    have q2 := hB2.size
    have q3 := hb2.size
    exact ⟨_, rfl, own_lower ho3 (by omega), ((hb1.trans (hB2.mono q1)).trans (hb2.mono (by omega))).trans (hb3.mono (by omega))⟩
  · have HR : Hid (inR s D = ([], (apR s D).2)) := by show _ = _; rw [inR, if_neg c]
    have hne : ((apR s D).2 != 0) = true := by simpa using c
    generalize apR s D = q at *
    go_enter Try.func7, Try.ntmps7
    go_wp2_with fail
    refine hA.mono ?_
    rintro e w1 ⟨rfl, hb1⟩
    go_wp2_with fail
    go_ret2
    rw [HR.out]
    exact ⟨_, rfl, World.ownsRow_nil _ _ _ _, hb1⟩
end Go.Proofs.Ytgabanndjiegdab
