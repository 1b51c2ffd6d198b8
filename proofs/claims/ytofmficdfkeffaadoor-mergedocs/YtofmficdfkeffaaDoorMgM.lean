/-
  The contracts of kept, deltaOf and Delta.
-/
import Derived.Test.YtofmficdfkeffaaDoorMgL
namespace Go.Proofs.YtofmficdfkeffaaDoor
open Go.ChangeShapes Go.WideShapes Go.ChangeAt Go.RowKit Go.PlainAid

/-- One code point more is kept. -/
def kpD (d : List OpD) : List OpD := match d.getLast? with
  | some o => if o.k = 1 then d.dropLast ++ [⟨1, o.n + 1, o.t⟩] else d ++ [⟨1, 1, ⟨#[]⟩⟩]
  | none => [⟨1, 1, ⟨#[]⟩⟩]
theorem kpD_keep (d : List OpD) (o : OpD) (h : o.k = 1) : kpD (d ++ [o]) = d ++ [⟨1, o.n + 1, o.t⟩] := by simp [kpD, h]
theorem kpD_else (d : List OpD) (o : OpD) (h : o.k ≠ 1) : kpD (d ++ [o]) = d ++ [o] ++ [⟨1, 1, ⟨#[]⟩⟩] := by simp [kpD, h]
theorem ocs_keep (d : List OpD) (o : OpD) (z : Int) : (ocs (d ++ [o])).set (d.length * 3 + 1) (.int .i64 z) = ocs (d ++ [⟨o.k, z, o.t⟩]) := by
  rw [ocs_append, ocs_append, ocs_one, ocs_one, List.set_append, if_neg (by rw [ocs_length]; omega), ocs_length, Nat.add_sub_cancel_left]
  rfl

set_option maxRecDepth 20000 in
set_option maxHeartbeats 1000000 in
theorem kept_any (B : Nat) (u : Value) (d : List OpD) (w : World) (hB : B ≤ w.heap.size) (ho : w.ownsRow B 67 3 u d.length (ocs d)) (hl : d.length ≤ 100000) (hn : ∀ o ∈ d, 0 ≤ o.n ∧ o.n ≤ 100000) :
    Calls Tryd.prog 64 #[u] w fun e w' => ∃ u', e = .returned u' ∧ w'.ownsRow B 67 3 u' (kpD d).length (ocs (kpD d)) ∧ Below B w w' := by
  obtain ⟨i0, hin, hz0, hz1, hz2⟩ := info_parts Tryd.infoOp
  obtain ⟨au, ku, rfl⟩ := own_form ho
  rcases List.eq_nil_or_concat d with rfl | ⟨d', o, rfl⟩
  · have HK : Hid (kpD [] = [⟨1, 1, ⟨#[]⟩⟩]) := rfl
    go_enter Tryd.func64, Tryd.ntmps64
    go_wp2_with (at_builtin; refine wpList_append_own _ rfl (.tmp 26) (.tmp 28) 32 rfl B 67 i0 (.agg #[.int .i64 0, .int .i64 0, .string ⟨#[]⟩]) 3 32 Tryd.underlying32 hin hz0 hz1 hz2 rfl (by decide) _ _ _ rfl (ho.alloc _) ⟨w.heap.size, 0, none⟩ 1 1 [.int .i64 1, .int .i64 1, .string ⟨#[]⟩] rfl rfl (many_new _ _ _) (three_one _ _ _) (by unfold maxLen; simp) (by simp) (by simp; omega) ?_; intro v5 w5 ho5 hg5 hnil5)
    go_ret
    rw [HK.out]
    exact ⟨_, rfl, by rw [ocs_one]; simpa [ocs] using ho5, ((Below.refl B w).alloc hB _).grown hg5 (by simp; omega) (fun k hk => (ho.lt k hk).1)⟩
  · rw [List.concat_eq_append] at *
    have hlen : (d' ++ [o]).length = d'.length + 1 := by simp
    obtain ⟨g, off, e6, b0, b1, b2⟩ := rdd_at (rdd_own ho) d'.length o (by simp)
    subst e6
    obtain ⟨rfl, cur, hcur⟩ := own_zero ho
    have hon := hn o (by simp)
    have hdl : d'.length ≤ 100000 := by rw [hlen] at hl; omega
    clear hl hn
    have hgB := (ho.lt g rfl).1
    rw [hlen] at ho ⊢
    rw [Nat.zero_add] at b0 b1
    have f1 := frz hcur (d'.length * 3 + 1)
    by_cases hk : o.k = 1
    · have hk' : (o.k == 1) = true := by simp [hk]
      have HK : Hid (kpD (d' ++ [o]) = d' ++ [⟨o.k, o.n + 1, o.t⟩]) := by show _ = _; rw [kpD_keep d' o hk, hk]
      have hset := own_cell (j := d'.length * 3 + 1) ho (.int .i64 (o.n + 1))
      rw [ocs_keep] at hset
      have hbs := (Below.refl B w).setCell (p := ⟨g, d'.length * 3 + 1, none⟩) hgB (.int .i64 (o.n + 1))
      have hw : IntKind.i64.wrap (o.n + 1) = o.n + 1 := by rw [IntKind.wrap_i64]; omega
      clear hk hcur ho
      go_enter Tryd.func64, Tryd.ntmps64
      go_wp2_with fail
      go_ret
      rw [HK.out]
      exact ⟨_, rfl, by rw [show (d' ++ [(⟨o.k, o.n + 1, o.t⟩ : OpD)]).length = d'.length + 1 by simp]; exact hset, hbs⟩
    · have hk' : (o.k == 1) = false := by simp [hk]
      have HK : Hid (kpD (d' ++ [o]) = (d' ++ [o]) ++ [⟨1, 1, ⟨#[]⟩⟩]) := kpD_else d' o hk
      clear hk hcur
      go_enter Tryd.func64, Tryd.ntmps64
      go_wp2_with (at_builtin; refine wpList_append_own _ rfl (.tmp 26) (.tmp 28) 32 rfl B 67 i0 (.agg #[.int .i64 0, .int .i64 0, .string ⟨#[]⟩]) 3 32 Tryd.underlying32 hin hz0 hz1 hz2 rfl (by decide) _ _ _ rfl (ho.alloc _) ⟨w.heap.size, 0, none⟩ 1 1 [.int .i64 1, .int .i64 1, .string ⟨#[]⟩] rfl rfl (many_new _ _ _) (three_one _ _ _) (by unfold maxLen; omega) (by omega) (by simp; omega) ?_; intro v5 w5 ho5 hg5 hnil5)
      go_ret
      rw [HK.out]
      exact ⟨_, rfl, by rw [ocs_append (d' ++ [o]), ocs_one, List.length_append, hlen]; exact ho5, ((Below.refl B w).alloc hB _).grown hg5 (by simp; omega) (fun k hk => (ho.lt k hk).1)⟩

/-- What a gap puts in and takes out. -/
def dpO (g p : List Atm) : List OpD := (if p = [] then [] else [⟨2, 0, mk (txU p)⟩]) ++ (if g = [] then [] else [⟨3, (g.length : Int), ⟨#[]⟩⟩])
/-- Gap by gap. -/
def dpG : List (List Atm) → List (List Atm) → List OpD → List OpD
  | g :: G, p :: P, d => dpG G P (kpD d ++ dpO g p)
  | _, _, d => d
def dpD (G P : List (List Atm)) : List OpD := match G, P with
  | g :: G, p :: P => dpG G P (dpO g p)
  | _, _ => []
end Go.Proofs.YtofmficdfkeffaaDoor

/-
  The contract of deltaOf.
-/
namespace Go.Proofs.YtofmficdfkeffaaDoor
open Go.ChangeShapes Go.WideShapes Go.ChangeAt Go.RowKit Go.PlainAid

theorem dpG_drop {G P : List (List Atm)} {d : List OpD} {k : Nat} (hg : k < G.length) (hp : k < P.length) : dpG (G.drop k) (P.drop k) d = dpG (G.drop (k + 1)) (P.drop (k + 1)) (kpD d ++ dpO G[k] P[k]) := by
  rw [List.drop_eq_getElem_cons hg, List.drop_eq_getElem_cons hp, dpG]
theorem dpD_one {G P : List (List Atm)} (hg : 0 < G.length) (hp : 0 < P.length) : dpD G P = dpG (G.drop 1) (P.drop 1) (dpO G[0] P[0]) := by
  cases G with
  | nil => simp at hg
  | cons g G =>
    cases P with
    | nil => simp at hp
    | cons p P => rfl
theorem dpG_end (P : List (List Atm)) (d : List OpD) : dpG [] P d = d := by simp [dpG]
theorem kpD_len (d : List OpD) : (kpD d).length ≤ d.length + 1 := by
  rcases List.eq_nil_or_concat d with rfl | ⟨d', o, rfl⟩
  · simp [kpD]
  · rw [List.concat_eq_append]
    by_cases h : o.k = 1
    · rw [kpD_keep d' o h]; simp
    · rw [kpD_else d' o h]; simp
theorem kpD_bd {d : List OpD} {m : Int} (hm : 0 ≤ m) (h : ∀ o ∈ d, 0 ≤ o.n ∧ o.n ≤ m) : ∀ o ∈ kpD d, 0 ≤ o.n ∧ o.n ≤ m + 1 := by
  rcases List.eq_nil_or_concat d with rfl | ⟨d', o, rfl⟩
  · intro o ho
    simp [kpD] at ho
    subst ho
    simp only
    omega
  · rw [List.concat_eq_append] at *
    have ho := h o (by simp)
    by_cases hk : o.k = 1
    · rw [kpD_keep d' o hk]
      intro x hx
      rcases List.mem_append.1 hx with hx | hx
      · have := h x (by simp [hx]); omega
      · simp at hx; subst hx; simp only; omega
    · rw [kpD_else d' o hk]
      intro x hx
      rcases List.mem_append.1 hx with hx | hx
      · have := h x hx; omega
      · simp at hx; subst hx; simp only; omega
theorem dpO_len (g p : List Atm) : (dpO g p).length ≤ 2 := by unfold dpO; split <;> split <;> simp
theorem dpO_bd {g p : List Atm} (hg : g.length ≤ 1000) : ∀ o ∈ dpO g p, 0 ≤ o.n ∧ o.n ≤ 1000 := by
  intro o ho
  unfold dpO at ho
  rcases List.mem_append.1 ho with h | h
  · split at h
    · simp at h
    · simp at h; subst h; simp
  · split at h
    · simp at h
    · simp at h; subst h; simp only; omega

set_option maxRecDepth 20000 in
set_option maxHeartbeats 2000000 in
theorem deltaOf_any (a x : RwV) (A X : List Atm) (w : World) (hA : IsRw w a A) (hX : IsRw w x X) (lA : A.length ≤ 1000) (lX : X.length ≤ 1000) (zX : ∀ u ∈ X, szI u.z ≠ 0) (hbal : (gpG (hasK X) [] [] A).length = (gpG (hasK A) [] [] X).length) :
    Calls Tryd.prog 35 #[.agg #[.slice a.ao A.length a.cp, .map (some a.b)], .agg #[.slice x.ao X.length x.cp, .map (some x.b)]] w fun e w' => ∃ u, e = .returned u ∧ w'.ownsRow w.heap.size 67 3 u (dpD (gpG (hasK X) [] [] A) (gpG (hasK A) [] [] X)).length (ocs (dpD (gpG (hasK X) [] [] A) (gpG (hasK A) [] [] X))) ∧ Below w.heap.size w w' := by
  obtain ⟨i0, hin, hz0, hz1, hz2⟩ := info_parts Tryd.infoOp
  have hmf : ∀ (fn : Fn) (first cap : Array Value) (w : World), (Instr.makeFunc fn first cap).run Tryd.prog w = .ok (.func fn first cap) w := fun _ _ _ _ => rfl
  have q1 : Below w.heap.size w (w.alloc (.cells #[.slice a.ao A.length a.cp, .map (some a.b)] 50)) := (Below.refl _ w).alloc (Nat.le_refl _) _
  have b1 : RwB (w.alloc (.cells #[.slice a.ao A.length a.cp, .map (some a.b)] 50)) w.heap.size a A.length := heap_alloc_new w _
  have s1 : (w.alloc (.cells #[.slice a.ao A.length a.cp, .map (some a.b)] 50)).heap.size = w.heap.size + 1 := by simp
  have q2 := (Below.refl _ (w.alloc (.cells #[.slice a.ao A.length a.cp, .map (some a.b)] 50))).alloc (Nat.le_refl _) (.cells #[.slice x.ao X.length x.cp, .map (some x.b)] 50)
  have b2 : RwB ((w.alloc (.cells #[.slice a.ao A.length a.cp, .map (some a.b)] 50)).alloc (.cells #[.slice x.ao X.length x.cp, .map (some x.b)] 50)) (w.heap.size + 1) x X.length := by
    have := heap_alloc_new (w.alloc (.cells #[.slice a.ao A.length a.cp, .map (some a.b)] 50)) (.cells #[.slice x.ao X.length x.cp, .map (some x.b)] 50)
    rw [s1] at this
    exact this
  replace b1 := b1.below q2
  have hB := chain q1 q2
  clear q1 q2 s1
  have wA := hA.mp.1
  have wX := hX.mp.1
  go_enter Tryd.func35, Tryd.ntmps35
  go_wp2_with fail
  generalize World.alloc (World.alloc _ _) _ = w2 at *
  replace hA := hA.below hB
  replace hX := hX.below hB
  have pX : ∀ W, Below w2.heap.size w2 W → Pr W 52 #[.agg #[.slice x.ao X.length x.cp, .map (some x.b)]] #[] A (hasK X) := fun W hW => ⟨fun _ _ => by kernel_rfl, fun W' hb u hu => hasR_any x X u W' ((hX.below hW).below hb) (wA u hu)⟩
  have pA : ∀ W, Below w2.heap.size w2 W → Pr W 52 #[.agg #[.slice a.ao A.length a.cp, .map (some a.b)]] #[] X (hasK A) := fun W hW => ⟨fun _ _ => by kernel_rfl, fun W' hb u hu => hasR_any a A u W' ((hA.below hW).below hb) (wX u hu)⟩
  have c1 := gaps_any _ _ _ _ A _ w2 hA.rd (pX w2 (Below.refl _ _)) (by omega)
  have c2 := fun W (hW : Below w2.heap.size w2 W) => gaps_any _ _ _ _ X _ W (hX.rd.below hW) (pA W hW) (by omega)
  have mG : ∀ g ∈ gpG (hasK X) [] [] A, g.length ≤ 1000 := fun g hg => Nat.le_trans (gpG_small hg) lA
  have mP : ∀ g ∈ gpG (hasK A) [] [] X, (∀ u ∈ g, szI u.z ≠ 0) ∧ g.length ≤ 1000 := fun g hg => ⟨fun u hu => zX u (gpG_mem hg u hu), Nat.le_trans (gpG_small hg) lX⟩
  have lG : (gpG (hasK X) [] [] A).length ≤ 2000 := by
    rw [gpG_len]
    have h1 := List.length_filter_le (hasK X) A
    simp only [List.length_nil]
    omega
  have gG : 0 < (gpG (hasK X) [] [] A).length := by rw [gpG_len]; omega
  have HBal : Hid ((gpG (hasK X) [] [] A).length = (gpG (hasK A) [] [] X).length) := hbal
  obtain ⟨R, HRd⟩ : ∃ R, Hid (dpD (gpG (hasK X) [] [] A) (gpG (hasK A) [] [] X) = R) := ⟨_, rfl⟩
  clear hbal pX pA wA wX zX hA hX
  refine c1.mono ?_
  rintro e w3 ⟨uG, rfl, rG, q3⟩
  obtain ⟨aG, kG, eG, -⟩ := id rG
  subst eG
  obtain ⟨f0, f1⟩ := (b1.below q3).cells
  obtain ⟨f2, f3⟩ := (b2.below q3).cells
  have c2 := c2 _ q3
  go_wp2_with fail
  refine c2.mono ?_
  rintro e w4 ⟨uP, rfl, rP, q4⟩
  obtain ⟨aP, kP, eP, -⟩ := id rP
  subst eP
  replace rG := rG.below q4
  replace hB := chain hB (chain q3 q4)
  clear c1 c2 f0 f1 f2 f3 b1 b2 q3 q4 hmf
  obtain ⟨G, hG⟩ : ∃ G, gpG (hasK X) [] [] A = G := ⟨_, rfl⟩
  obtain ⟨P, hP⟩ : ∃ P, gpG (hasK A) [] [] X = P := ⟨_, rfl⟩
  have HR2 : Hid (dpD G P = R) := by show _ = _; rw [← hG, ← hP]; exact HRd.out
  rw [hG] at rG mG lG gG HBal ⊢
  rw [hP] at rP mP HBal ⊢
  clear hG hP
  go_wp2_with fail
  obtain ⟨w5, rfl⟩ : ∃ z, z = w4 := ⟨_, rfl⟩
  go_loopw [7, 21] (fun u i wr => ∃ (k : Nat) (d : List OpD), k ≤ G.length ∧ i = .int .i64 (k : Int) ∧ Hid ((k = 0 ∧ d = []) ∨ (0 < k ∧ dpG (G.drop k) (P.drop k) d = R)) ∧ d.length ≤ 3 * k ∧ (∀ o ∈ d, 0 ≤ o.n ∧ o.n ≤ 1000 + (k : Int)) ∧ wr.ownsRow w5.heap.size 67 3 u d.length (ocs d) ∧ Below w5.heap.size w5 wr) (fun _ i _ => G.length - (Go.RowKit.intOf i).toNat)
  case atStart => exact ⟨0, [], Nat.zero_le _, rfl, .inl ⟨rfl, rfl⟩, by simp, fun o h => by simp at h, World.ownsRow_nil _ _ _ _, Below.refl _ _⟩
  case round =>
    obtain ⟨k, d, hk, rfl, hd, hdl, hdn, ho, hb⟩ := hrel
    obtain ⟨ad, kd, rfl⟩ := own_form ho
    by_cases hlt : k < G.length
    · have hlt' : (k : Int) < (G.length : Int) := by omega
      have hlt2 : k < P.length := by rw [← HBal.out]; exact hlt
      have hlt2' : (k : Int) < (P.length : Int) := by omega
      have hgx : G[k]? = some G[k] := by simp [hlt]
      have hgy : P[k]? = some P[k] := by simp [hlt2]
      obtain ⟨b1, o1, u1, rfl, hb1, e1, r1⟩ := rdg_at rG hgx
      obtain ⟨b2, o2, u2, rfl, hb2, e2, r2⟩ := rdg_at rP hgy
      have p1 : ∀ W, Below w5.heap.size w5 W → W.cell? ⟨b1, o1 + k, none⟩ = some u1 := fun W hW => (hW.cell (p := ⟨b1, o1 + k, none⟩) hb1).trans e1
      have p2 : ∀ W, Below w5.heap.size w5 W → W.cell? ⟨b2, o2 + k, none⟩ = some u2 := fun W hW => (hW.cell (p := ⟨b2, o2 + k, none⟩) hb2).trans e2
      have lg := mG G[k] (by simp)
      obtain ⟨zp, lp⟩ := mP P[k] (by simp)
      obtain ⟨d1, HK0, HK1⟩ : ∃ d1, Hid (k = 0 → d1 = d) ∧ Hid (0 < k → d1 = kpD d) := by
        by_cases h0 : k = 0
        · exact ⟨d, fun _ => rfl, fun h => by omega⟩
        · exact ⟨kpD d, fun h => absurd h h0, fun _ => rfl⟩
      have HN : Hid (dpG (G.drop (k + 1)) (P.drop (k + 1)) (d1 ++ dpO G[k] P[k]) = R) := by
        show _ = _
        rcases hd.out with ⟨h0, h1⟩ | ⟨h0, h1⟩
        · rw [HK0.out h0, h1, List.nil_append]
          subst h0
          rw [← dpD_one hlt hlt2]
          exact HR2.out
        · rw [HK1.out h0, ← dpG_drop hlt hlt2]
          exact h1
      have h1l : d1.length ≤ 3 * k + 1 := by
        by_cases h0 : k = 0
        · rw [HK0.out h0]; omega
        · rw [HK1.out (by omega)]; have := kpD_len d; omega
      have h1n : ∀ o ∈ d1, 0 ≤ o.n ∧ o.n ≤ 1000 + (k : Int) + 1 := by
        by_cases h0 : k = 0
        · rw [HK0.out h0]; intro o ho'; have := hdn o ho'; omega
        · rw [HK1.out (by omega)]; exact kpD_bd (by omega) hdn
      have hdd := dpO_len G[k] P[k]
      have hdb := dpO_bd (p := P[k]) lg
      generalize G[k] = g at *
      generalize P[k] = p at *
      obtain ⟨ag, cg, eg, -⟩ := id r1
      subst eg
      obtain ⟨ap, cp, ep, -⟩ := id r2
      subst ep
      have cT := fun W (hW : Below w5.heap.size w5 W) => textOf_any (.slice ap p.length cp) p W (r2.below hW) zp (by omega)
      have hsz := hb.size
      have cK := kept_any w5.heap.size (.slice ad d.length kd) d wr hsz ho (by omega) (fun o ho' => by have := hdn o ho'; omega)
      clear e1 e2 hgx hgy hd r1 r2 mG mP
      go_upto_if 25 with fail
      go_cut [7] (fun u wx => wx.ownsRow w5.heap.size 67 3 u d1.length (ocs d1) ∧ Below w5.heap.size w5 wx)
      case first =>
        by_cases h0 : k = 0
        · have hd1 := HK0.out h0
          subst h0
          clear HK0 HK1 HN cT cK p1 p2
          go_wp2_with fail
          go_meet
          exact ⟨by rw [hd1]; exact ho, hb⟩
        · have h0' : 0 < (k : Int) := by omega
          have hd1 := HK1.out (by omega)
          clear HK0 HK1 HN cT p1 p2
          go_wp2_with fail
          refine cK.mono ?_
          rintro e wk ⟨uk, rfl, hok, qk⟩
          obtain ⟨ak, kk, rfl⟩ := own_form hok
          go_wp2_with fail
          go_meet
          have hbk := hb.trans qk
          rw [hd1]
          exact ⟨hok, hbk⟩
      case rest =>
        obtain ⟨ho1, hb1'⟩ := hcut
        obtain ⟨a1, k1, rfl⟩ := own_form ho1
        obtain ⟨wc1, rfl⟩ : ∃ z, z = wc := ⟨_, rfl⟩
        have f2 := p2 _ hb1'
        have hs1 := hb1'.size
        clear cK ho hb HK0 HK1
        obtain ⟨d2, HD2⟩ : ∃ d2 : List OpD, Hid (d1 ++ (if p = [] then [] else [(⟨2, 0, mk (txU p)⟩ : OpD)]) = d2) := ⟨_, rfl⟩
        go_upto_if 33 with fail
        go_cut [7] (fun u wx => wx.ownsRow w5.heap.size 67 3 u d2.length (ocs d2) ∧ Below w5.heap.size w5 wx)
        case first =>
          by_cases h0 : p.length = 0
          · have hp0 : p = [] := List.length_eq_zero_iff.1 h0
            have hd2 := HD2.out
            rw [if_pos hp0, List.append_nil] at hd2
            have h0' : ¬ 0 < (p.length : Int) := by omega
            clear HD2 HN cT p1 p2 f2
            go_wp2_with fail
            go_meet
            rw [← hd2]
            exact ⟨ho1, hb1'⟩
          · have hp0 : ¬ p = [] := fun h => h0 (by rw [h]; rfl)
            have hd2 := HD2.out
            rw [if_neg hp0] at hd2
            have h0' : 0 < (p.length : Int) := by omega
            have hT := cT _ hb1'
            generalize mk (txU p) = T at *
            clear HD2 HN cT p1
            go_wp2_with fail
            refine hT.mono ?_
            rintro e wt ⟨rfl, qt⟩
            have hbt := chain hb1' qt
            have hot := own_belowG ho1 qt
            have hst := hbt.size
            clear hT f2
            go_wp2_with (at_builtin; refine wpList_append_own _ rfl (.tmp 34) (.tmp 41) 32 rfl w5.heap.size 67 i0 (.agg #[.int .i64 0, .int .i64 0, .string ⟨#[]⟩]) 3 32 Tryd.underlying32 hin hz0 hz1 hz2 rfl (by decide) _ _ _ rfl (hot.alloc _) ⟨wt.heap.size, 0, none⟩ 1 1 [.int .i64 2, .int .i64 0, .string T] rfl rfl (many_new _ _ _) (three_one _ _ _) (by unfold maxLen; omega) (by omega) (by simp; omega) ?_; intro v5 w6 ho5 hg5 hnil5; obtain ⟨a5, k5, rfl⟩ := own_form ho5)
            go_meet
            have hb5 := (hbt.alloc hst _).grown hg5 (by simp; omega) (fun k hk => (hot.lt k hk).1)
            rw [← hd2, ocs_append, ocs_one, List.length_append]
            exact ⟨ho5, hb5⟩
        case rest =>
          obtain ⟨ho2, hb2'⟩ := hcut
          obtain ⟨a2, k2, rfl⟩ := own_form ho2
          have f1 := p1 _ hb2'
          have hs2 := hb2'.size
          have h2l : d2.length ≤ 3 * k + 2 := by
            rw [← HD2.out, List.length_append]
            have : (if p = [] then ([] : List OpD) else [⟨2, 0, mk (txU p)⟩]).length ≤ 1 := by split <;> simp
            omega
          clear cT p1 p2 f2 ho1
          by_cases h0 : g.length = 0
          · have hg0 : g = [] := List.length_eq_zero_iff.1 h0
            have h0' : ¬ 0 < (g.length : Int) := by omega
            have HE : Hid (d2 = d1 ++ dpO g p) := by show _ = _; rw [← HD2.out]; unfold dpO; rw [if_pos hg0, List.append_nil]
            have hn2 : ∀ o ∈ d2, 0 ≤ o.n ∧ o.n ≤ 1000 + ((k + 1 : Nat) : Int) := fun o ho' => by
              rw [HE.out] at ho'
              rcases List.mem_append.1 ho' with h | h
              · have := h1n o h; omega
              · have := hdb o h; omega
            rw [← HE.out] at HN
            clear HD2
            go_wp2_with fail
            refine ⟨⟨k + 1, d2, by omega, by go_num, .inr ⟨by omega, HN.out⟩, by omega, hn2, ho2, hb2'⟩, ?_⟩
            simp [Go.RowKit.intOf]
            omega
          · have hg0 : ¬ g = [] := fun h => h0 (by rw [h]; rfl)
            have h0' : 0 < (g.length : Int) := by omega
            have HE : Hid (d2 ++ [(⟨3, (g.length : Int), ⟨#[]⟩⟩ : OpD)] = d1 ++ dpO g p) := by show _ = _; rw [← HD2.out]; unfold dpO; rw [if_neg hg0, List.append_assoc]
            have hn2 : ∀ o ∈ d2 ++ [(⟨3, (g.length : Int), ⟨#[]⟩⟩ : OpD)], 0 ≤ o.n ∧ o.n ≤ 1000 + ((k + 1 : Nat) : Int) := fun o ho' => by
              rw [HE.out] at ho'
              rcases List.mem_append.1 ho' with h | h
              · have := h1n o h; omega
              · have := hdb o h; omega
            rw [← HE.out] at HN
            clear HD2 HE
            go_wp2_with (at_builtin; refine wpList_append_own _ rfl (.tmp 49) (.tmp 56) 32 rfl w5.heap.size 67 i0 (.agg #[.int .i64 0, .int .i64 0, .string ⟨#[]⟩]) 3 32 Tryd.underlying32 hin hz0 hz1 hz2 rfl (by decide) _ _ _ rfl (ho2.alloc _) ⟨wc.heap.size, 0, none⟩ 1 1 [.int .i64 3, .int .i64 (g.length : Int), .string ⟨#[]⟩] rfl rfl (many_new _ _ _) (three_one _ _ _) (by unfold maxLen; omega) (by omega) (by simp; omega) ?_; intro v5 w6 ho5 hg5 hnil5)
            have hb5 := (hb2'.alloc hs2 _).grown hg5 (by simp; omega) (fun k hk => (ho2.lt k hk).1)
            refine ⟨⟨k + 1, d2 ++ [(⟨3, (g.length : Int), ⟨#[]⟩⟩ : OpD)], by omega, by go_num, .inr ⟨by omega, HN.out⟩, by simp; omega, hn2, by rw [ocs_append, ocs_one, List.length_append]; exact ho5, hb5⟩, ?_⟩
            simp [Go.RowKit.intOf]
            omega
    · obtain rfl : k = G.length := by omega
      have hdR : d = R := by
        rcases hd.out with ⟨h0, -⟩ | ⟨-, h1⟩
        · omega
        · rw [List.drop_length, dpG_end] at h1
          exact h1
      subst hdR
      clear hd mG mP rG rP
      go_wp2_with fail
      go_ret
      rw [HRd.out]
      exact ⟨.slice ad d.length kd, rfl, own_lower ho hB.size, chain hB hb⟩
end Go.Proofs.YtofmficdfkeffaaDoor

/-
  The contract of Delta.
-/
namespace Go.Proofs.YtofmficdfkeffaaDoor
open Go.ChangeShapes Go.WideShapes Go.ChangeAt Go.RowKit Go.PlainAid

theorem two_bal {A X : List Atm} (nA : (kL A).Nodup) (nX : (kL X).Nodup) : (gpG (hasK X) [] [] A).length = (gpG (hasK A) [] [] X).length := by
  rw [gpG_len, gpG_len]
  have h := common_len nA nX (fun _ => true)
  have e1 : A.filter (hasK X) = A.filter (fun x => decide (x.key ∈ kL X) && true) := by
    apply List.filter_congr
    intro u hu
    simp [hasK]
  have e2 : X.filter (hasK A) = X.filter (fun x => decide (x.key ∈ kL A) && true) := by
    apply List.filter_congr
    intro u hu
    simp [hasK]
  rw [e1, e2, h]
/-- What Delta answers: the error, the delta. -/
def ddE (f t : List RunD) : Int := if ckL [f, t] = 0 then (if fitD (ats f) (ats t) = true then 0 else 141) else 120
def ddL (f t : List RunD) : List OpD := if ddE f t = 0 then dpD (gpG (hasK (ats t)) [] [] (ats f)) (gpG (hasK (ats f)) [] [] (ats t)) else []
theorem ddL_no {f t : List RunD} (h : ddE f t ≠ 0) : ddL f t = [] := if_neg h
theorem rdl_two (W : World) (u v : Value) (b x : List RunD) (hb : RdN W u b) (hx : RdN W v x) :
    RdL (W.alloc (.cells #[u, v] 22)) (.slice (some ⟨W.heap.size, 0, none⟩) 2 2) [b, x] := by
  have h := heap_alloc_new W (.cells #[u, v] 22)
  have q : Below W.heap.size W (W.alloc (.cells #[u, v] 22)) := (Below.refl _ W).alloc (Nat.le_refl _) _
  refine ⟨_, 2, rfl, fun i l hl => ?_⟩
  match i, hl with
  | 0, hl => simp at hl; subst hl; exact ⟨W.heap.size, 0, u, rfl, heap_lt h, by unfold World.cell?; rw [h]; rfl, hb.below q⟩
  | 1, hl => simp at hl; subst hl; exact ⟨W.heap.size, 0, v, rfl, heap_lt h, by unfold World.cell?; rw [h]; rfl, hx.below q⟩
  | (i + 2), hl => simp at hl
theorem boxes2 (a x : RwV) (n m : Nat) (w : World) : Below w.heap.size w ((w.alloc (.cells #[.slice a.ao n a.cp, .map (some a.b)] 50)).alloc (.cells #[.slice x.ao m x.cp, .map (some x.b)] 50)) ∧
    RwB ((w.alloc (.cells #[.slice a.ao n a.cp, .map (some a.b)] 50)).alloc (.cells #[.slice x.ao m x.cp, .map (some x.b)] 50)) w.heap.size a n ∧
    RwB ((w.alloc (.cells #[.slice a.ao n a.cp, .map (some a.b)] 50)).alloc (.cells #[.slice x.ao m x.cp, .map (some x.b)] 50)) (w.heap.size + 1) x m := by
  have q1 : Below w.heap.size w (w.alloc (.cells #[.slice a.ao n a.cp, .map (some a.b)] 50)) := (Below.refl _ w).alloc (Nat.le_refl _) _
  have b1 : RwB (w.alloc (.cells #[.slice a.ao n a.cp, .map (some a.b)] 50)) w.heap.size a n := heap_alloc_new w _
  have s1 : (w.alloc (.cells #[.slice a.ao n a.cp, .map (some a.b)] 50)).heap.size = w.heap.size + 1 := by simp
  generalize w.alloc (.cells #[.slice a.ao n a.cp, .map (some a.b)] 50) = w1 at *
  have q2 : Below w1.heap.size w1 (w1.alloc (.cells #[.slice x.ao m x.cp, .map (some x.b)] 50)) := (Below.refl _ w1).alloc (Nat.le_refl _) _
  have b2 : RwB (w1.alloc (.cells #[.slice x.ao m x.cp, .map (some x.b)] 50)) w1.heap.size x m := heap_alloc_new w1 _
  rw [s1] at b2
  exact ⟨chain q1 q2, b1.below q2, b2⟩

set_option maxRecDepth 20000 in
set_option maxHeartbeats 2000000 in
theorem mdelta_any (vb vx : Value) (b x : List RunD) (w : World) (hV : VS w) (rb : RdN w vb b) (rx : RdN w vx x) (hm : ∀ l ∈ [b, x], l.length ≤ 1125899906842624 ∧ ∀ r ∈ l, r.In) :
    Calls Tryd.prog 14 #[vb, vx] w fun e w' => ∃ u, e = .returned (.tuple #[u, .int .i64 (ddE b x)]) ∧ w'.ownsRow w.heap.size 67 3 u (ddL b x).length (ocs (ddL b x)) ∧ Below w.heap.size w w' := by
  have hL := rdl_two w vb vx b x rb rx
  have q0 : Below w.heap.size w (w.alloc (.cells #[vb, vx] 22)) := (Below.refl _ w).alloc (Nat.le_refl _) _
  have cK := mcheck_any _ [b, x] _ (hV.below q0) hL hm (by simp)
  have none_ : ∀ (z : Int) (w' : World), ddE b x = z → z ≠ 0 → Below w.heap.size w w' → ∃ u, (Ending.returned (.tuple #[.slice none 0 0, .int .i64 z])) = .returned (.tuple #[u, .int .i64 (ddE b x)]) ∧ w'.ownsRow w.heap.size 67 3 u (ddL b x).length (ocs (ddL b x)) ∧ Below w.heap.size w w' := fun z w' h h0 hb => by
    rw [ddL_no (by rw [h]; exact h0), h]
    exact ⟨_, rfl, World.ownsRow_nil _ _ _ _, hb⟩
  obtain ⟨abo, abc, eb, -⟩ := id rb
  subst eb
  obtain ⟨axo, axc, ex, -⟩ := id rx
  subst ex
  by_cases hck : ckL [b, x] = 0
  · have gb := ckL_good hck b (by simp)
    have gx := ckL_good hck x (by simp)
    rw [hck] at cK
    have c1 := fun W (hW : Below w.heap.size w W) => rowOf_any _ b W (rb.below hW) gb
    have c2 := fun W (hW : Below w.heap.size w W) => rowOf_any _ x W (rx.below hW) gx
    obtain ⟨nB, mB, lB, zB⟩ := good_kl gb
    obtain ⟨nX, mX, lX, zX⟩ := good_kl gx
    have HE : Hid (ddE b x = if fitD (ats b) (ats x) = true then 0 else 141) := by show _ = _; unfold ddE; rw [if_pos hck]
    have HLd : Hid (ddL b x = if ddE b x = 0 then dpD (gpG (hasK (ats x)) [] [] (ats b)) (gpG (hasK (ats b)) [] [] (ats x)) else []) := rfl
    clear rb rx hL hm hck gb gx hV
    generalize ats b = A at *
    generalize ats x = X at *
    go_enter Tryd.func14, Tryd.ntmps14
    go_wp2_with fail
    refine cK.mono ?_
    rintro e w1 ⟨rfl, q1⟩
    have hB := chain q0 q1
    clear cK q0 q1
    go_wp2_with fail
    refine (c1 _ hB).mono ?_
    rintro e w2 ⟨a1, p1, rfl, rA, mA, q2⟩
    replace hB := chain hB q2
    have iA : IsRw w2 ⟨a1, p1, w1.heap.size + 1⟩ A := ⟨rA, mA⟩
    clear c1 q2 rA mA
    go_wp2_with fail
    refine (c2 _ hB).mono ?_
    rintro e w3 ⟨a2, p2, rfl, rX, mX', q3⟩
    replace hB := chain hB q3
    replace iA := iA.below q3
    have iX : IsRw w3 ⟨a2, p2, w2.heap.size + 1⟩ X := ⟨rX, mX'⟩
    clear c2 q3 rX mX'
    obtain ⟨qb, bA, bX⟩ := boxes2 ⟨a1, p1, w1.heap.size + 1⟩ ⟨a2, p2, w2.heap.size + 1⟩ A.length X.length w3
    simp only at qb
    go_wp2_with fail
    generalize World.alloc (World.alloc _ _) _ = w7 at *
    replace iA := iA.below qb
    replace iX := iX.below qb
    replace hB := chain hB qb
    have cF1 := fit_any _ _ A X w7 iA iX (by omega)
    have cD := fun W (hW : Below w7.heap.size w7 W) => deltaOf_any _ _ A X W (iA.below hW) (iX.below hW) lB lX zX (two_bal nB nX)
    simp only at cF1 cD
    clear iA iX qb
    cases e1 : fitD A X
    · have HR : Hid (ddE b x = 141) := by show _ = _; rw [HE.out, e1]; rfl
      rw [e1] at cF1
      clear e1 HE
      refine cF1.mono ?_
      rintro e w8 ⟨rfl, q8⟩
      go_wp2_with fail
      go_ret2
      exact none_ 141 _ HR.out (by decide) (chain hB q8)
    · have h0 : ddE b x = 0 := by rw [HE.out, e1]; rfl
      have HR : Hid (ddE b x = 0 ∧ ddL b x = dpD (gpG (hasK X) [] [] A) (gpG (hasK A) [] [] X)) := ⟨h0, by rw [HLd.out, if_pos h0]⟩
      rw [e1] at cF1
      clear e1 HE HLd h0
      refine cF1.mono ?_
      rintro e w8 ⟨rfl, q8⟩
      obtain ⟨f0, f1⟩ := (bA.below q8).cells
      obtain ⟨f2, f3⟩ := (bX.below q8).cells
      simp only at f0 f1 f2 f3
      have cD := cD _ q8
      replace hB := chain hB q8
      go_wp2_with fail
      refine cD.mono ?_
      rintro e w9 ⟨u9, rfl, ho9, q9⟩
      go_wp2_with fail
      go_ret2
      rw [HR.out.1, HR.out.2]
      exact ⟨_, rfl, own_lower ho9 hB.size, chain hB q9⟩
  · have HE : Hid (ddE b x = 120) := by show _ = _; unfold ddE; rw [if_neg hck]
    have e1 : ckL [b, x] = 120 := by
      unfold ckL at hck ⊢
      split
      · rename_i h
        rw [if_pos h] at hck
        exact absurd rfl hck
      · rfl
    rw [e1] at cK
    clear e1 hck hL rb rx hm
    go_enter Tryd.func14, Tryd.ntmps14
    go_wp2_with fail
    refine cK.mono ?_
    rintro e w1 ⟨rfl, q1⟩
    go_wp2_with fail
    go_ret2
    exact none_ 120 _ HE.out (by decide) (chain q0 q1)
end Go.Proofs.YtofmficdfkeffaaDoor
