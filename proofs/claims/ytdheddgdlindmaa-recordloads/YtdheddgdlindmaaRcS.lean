/-
  record: what Pairs writes is read back; its keys rise.
-/
import Derived.Test.YtdheddgdlindmaaRcO
namespace Go.Proofs.Ytdheddgdlindmaa
open Go.ChangeShapes Go.WideShapes Go.ChangeAt Go.RowKit Go.PlainAid

theorem at_selfR (L : List UInt8) : At (mk L) 0 L := by
  have h := at_list [] L []
  simpa only [List.nil_append, List.length_nil, List.append_nil] using h
theorem rn_put {s : ByteArray} {a n : Nat} (hn : n ≤ 1125899906842624) (h : At s a (numB n)) : rnF s (a : Int) false = ((n : Int), ((a + (numB n).length : Nat) : Int), false) := by
  simp only [rnF]
  rw [pk.tk_at (by decide) (by omega) h]
  rfl
theorem rt_put {s t : ByteArray} {a : Nat} (ht : t.size ≤ 20000) (h : At s a (pk.textB t)) : rtF s (a : Int) false = (t, ((a + (pk.textB t).length : Nat) : Int), false) := by
  simp only [rtF]
  rw [pk.tkT_at ht h]
  rfl
theorem rd_put {s : ByteArray} {a : Nat} {ds : List OpD} (hi : ∀ o ∈ ds, o.In) (hc : chk ds = 0) (h : At s a (pk.textB (mk (encB (stR ds))))) : rdF s (a : Int) false = (ds, ((a + (pk.textB (mk (encB (stR ds)))).length : Nat) : Int), false) := by
  have hx := rt_put (by rw [mk_size]; have := encB_small hi; omega) h
  unfold rdF
  rw [hx]
  simp only
  rw [dec_enc hi hc]
  rfl
theorem nmB_cons (n : Nat) (l : List Nat) : nmB (n :: l) = numB n ++ nmB l := by simp [nmB]
theorem rcG_put {s : ByteArray} : ∀ (l : List Int) (a : Nat), (∀ n ∈ l, 0 ≤ n ∧ n ≤ 1125899906842624) → At s a (nmB (l.map Int.toNat)) → rcG s l.length (a : Int) false = (l, ((a + (nmB (l.map Int.toNat)).length : Nat) : Int), false)
  | [], a, _, _ => by simp [rcG, nmB]
  | n :: l, a, hl, h => by
    rw [List.map_cons, nmB_cons] at h ⊢
    obtain ⟨h1, h2⟩ := at_append.1 h
    have hn := hl n (by simp)
    have r1 := rn_put (by omega) h1
    have r2 := rcG_put l _ (fun m hm => hl m (by simp [hm])) h2
    rw [List.length_cons, rcG, r1]
    simp only
    rw [r2]
    simp only [List.length_append, Nat.add_assoc]
    rw [Int.toNat_of_nonneg hn.1]
theorem rc_put {s : ByteArray} {l : List Int} {a : Nat} (hl : NumsOk l) (h : At s a (nmB (l.length :: l.map Int.toNat))) : rcF s (a : Int) false = (l, ((a + (nmB (l.length :: l.map Int.toNat)).length : Nat) : Int), false) := by
  rw [nmB_cons] at h ⊢
  obtain ⟨h1, h2⟩ := at_append.1 h
  have h0 := hl.1
  have r1 := rn_put (by omega) h1
  have r2 := rcG_put l _ hl.2 h2
  unfold rcF
  rw [r1]
  simp only [Int.toNat_natCast]
  rw [r2]
  simp only [List.length_append, Nat.add_assoc]
theorem txs_one {t : ByteArray} (ht : t.size ≤ 20000) : txsR [t] = pk.textB t := by
  simp [txsR, pk.textR, if_pos ht, mk]
theorem txs_two {t u : ByteArray} (ht : t.size ≤ 20000) (hu : u.size ≤ 20000) : txsR [t, u] = pk.textB t ++ pk.textB u := by
  simp [txsR, pk.textR, if_pos ht, if_pos hu, mk]
theorem brF_name {x : BrD} (h : brF x = true) : x.nm.size ≤ 12 := by
  unfold brF nmOk at h
  simp only [Bool.and_eq_true, decide_eq_true_eq] at h
  exact h.1.1.2
theorem tkB_put {S : StD} {x : BrD} (hi0 : 1 ≤ x.i) (hi1 : x.i ≤ 65535) (h : brF x = true) : tkB S (brP x).v = (⟨S.nc, S.nb, S.cs, S.bs ++ [x], S.us⟩, true) := by
  have hnm := brF_name h
  have hs := at_selfR (nmB [x.i.toNat] ++ txsR [x.nm] ++ nmB (x.lg.length :: x.lg.map Int.toNat))
  have hz : (brP x).v.size = (nmB [x.i.toNat] ++ txsR [x.nm] ++ nmB (x.lg.length :: x.lg.map Int.toNat)).length := by unfold brP; rw [mk_size]
  have he : (brP x).v = mk (nmB [x.i.toNat] ++ txsR [x.nm] ++ nmB (x.lg.length :: x.lg.map Int.toNat)) := rfl
  rw [← he] at hs
  generalize (brP x).v = s at *
  rw [txs_one (by omega), nmB_cons x.i.toNat [], show nmB [] = [] from rfl, List.append_nil] at hs hz
  obtain ⟨h12, h3⟩ := at_append.1 hs
  obtain ⟨h1, h2⟩ := at_append.1 h12
  have r1 := rn_put (by omega) h1
  have r2 := rt_put (by omega) h2
  rw [List.length_append, ← Nat.add_assoc] at h3
  have r3 := rc_put (brF_nums h) h3
  have e0 : ((0 : Nat) : Int) = 0 := rfl
  rw [e0] at r1
  unfold tkB
  rw [r1]
  simp only
  rw [r2]
  simp only
  rw [r3]
  simp only
  rw [hz, Int.toNat_of_nonneg (by omega)]
  simp only [List.length_append, Nat.zero_add]
  simp
theorem coF_chk {x : CoD} (h : coF x = true) : chk x.d = 0 ∧ chk x.o = 0 := by
  unfold coF at h
  simp only [Bool.and_eq_true, decide_eq_true_eq] at h
  exact ⟨h.2.2.1, h.2.2.2.1⟩
theorem tkC_put {S : StD} {x : CoD} (hi0 : 1 ≤ x.n) (hi1 : x.n ≤ 65535) (h : coF x = true) (hd : ∀ o ∈ x.d, o.In) (ho : ∀ o ∈ x.o, o.In) : tkC S (coP x).v = (⟨S.nc, S.nb, S.cs ++ [x], S.bs, S.us⟩, true) := by
  obtain ⟨q1, q2, q3, q4, q5⟩ := coF_facts h
  obtain ⟨k1, k2⟩ := coF_chk h
  have d1 := encB_small hd
  have d2 := encB_small ho
  have hs := at_selfR (nmB [x.n.toNat] ++ nmB (x.ps.length :: x.ps.map Int.toNat) ++ txsR (dfsR [x.d, x.o]) ++ nmB [x.c.toNat, x.s.toNat])
  have hz : (coP x).v.size = (nmB [x.n.toNat] ++ nmB (x.ps.length :: x.ps.map Int.toNat) ++ txsR (dfsR [x.d, x.o]) ++ nmB [x.c.toNat, x.s.toNat]).length := by unfold coP; rw [mk_size]
  have he : (coP x).v = mk (nmB [x.n.toNat] ++ nmB (x.ps.length :: x.ps.map Int.toNat) ++ txsR (dfsR [x.d, x.o]) ++ nmB [x.c.toNat, x.s.toNat]) := rfl
  rw [← he] at hs
  generalize (coP x).v = s at *
  have ed : dfsR [x.d, x.o] = [mk (encB (stR x.d)), mk (encB (stR x.o))] := by simp [dfsR, encR, k1, k2]
  rw [ed, txs_two (by rw [mk_size]; omega) (by rw [mk_size]; omega), nmB_cons x.n.toNat [], nmB_cons x.c.toNat, nmB_cons x.s.toNat [], show nmB [] = [] from rfl, List.append_nil, List.append_nil] at hs hz
  obtain ⟨h13, h4⟩ := at_append.1 hs
  obtain ⟨h12, h3⟩ := at_append.1 h13
  obtain ⟨h1, h2⟩ := at_append.1 h12
  obtain ⟨h3a, h3b⟩ := at_append.1 h3
  obtain ⟨h4a, h4b⟩ := at_append.1 h4
  simp only [List.length_append, ← Nat.add_assoc] at h2 h3a h3b h4a h4b
  have r1 := rn_put (by omega) h1
  have r2 := rc_put q1 h2
  have r3 := rd_put hd k1 h3a
  have r4 := rd_put ho k2 h3b
  have r5 := rn_put (by omega) h4a
  have r6 := rn_put (by omega) h4b
  have e0 : ((0 : Nat) : Int) = 0 := rfl
  rw [e0] at r1
  unfold tkC
  rw [r1]
  simp only
  rw [r2]
  simp only
  rw [r3]
  simp only
  rw [r4]
  simp only
  rw [r5]
  simp only
  rw [r6]
  simp only
  rw [hz, Int.toNat_of_nonneg (show 0 ≤ x.n by omega), Int.toNat_of_nonneg q2, Int.toNat_of_nonneg q4]
  simp only [List.length_append, Nat.zero_add, ← Nat.add_assoc]
  simp
theorem tkN_put {S : StD} {n m : Int} (h0 : 1 ≤ n) (h1 : n ≤ 1000000) (h2 : 1 ≤ m) (h3 : m ≤ 1000000) : tkN S (nxP n m).v = (⟨n, m, S.cs, S.bs, S.us⟩, true) := by
  have hs := at_selfR (nmB [n.toNat, m.toNat])
  have hz : (nxP n m).v.size = (nmB [n.toNat, m.toNat]).length := by unfold nxP; rw [mk_size]
  have he : (nxP n m).v = mk (nmB [n.toNat, m.toNat]) := rfl
  rw [← he] at hs
  generalize (nxP n m).v = s at *
  rw [nmB_cons, nmB_cons, show nmB [] = [] from rfl, List.append_nil] at hs hz
  obtain ⟨g1, g2⟩ := at_append.1 hs
  have r1 := rn_put (by omega) g1
  have r2 := rn_put (by omega) g2
  have e0 : ((0 : Nat) : Int) = 0 := rfl
  rw [e0] at r1
  unfold tkN
  rw [r1]
  simp only
  rw [r2]
  simp only
  rw [hz, Int.toNat_of_nonneg (show 0 ≤ n by omega), Int.toNat_of_nonneg (show 0 ≤ m by omega)]
  simp only [List.length_append, Nat.zero_add]
  simp
theorem tkU_put {S : StD} {x : CuD} (h0 : 1 ≤ x.c) (h1 : x.c ≤ 8) (h : cuF x = true) : tkU S (cuP x).v = (⟨S.nc, S.nb, S.cs, S.bs, S.us ++ [x]⟩, true) := by
  obtain ⟨q1, q2, q3, q4⟩ := cuF_facts h
  have hs := at_selfR (nmB [x.c.toNat, x.b.toNat, x.s.toNat])
  have hz : (cuP x).v.size = (nmB [x.c.toNat, x.b.toNat, x.s.toNat]).length := by unfold cuP; rw [mk_size]
  have he : (cuP x).v = mk (nmB [x.c.toNat, x.b.toNat, x.s.toNat]) := rfl
  rw [← he] at hs
  generalize (cuP x).v = s at *
  rw [nmB_cons, nmB_cons, nmB_cons, show nmB [] = [] from rfl, List.append_nil] at hs hz
  obtain ⟨g1, g23⟩ := at_append.1 hs
  obtain ⟨g2, g3⟩ := at_append.1 g23
  have r1 := rn_put (by omega) g1
  have r2 := rn_put (by omega) g2
  have r3 := rn_put (by omega) g3
  have e0 : ((0 : Nat) : Int) = 0 := rfl
  rw [e0] at r1
  unfold tkU
  rw [r1]
  simp only
  rw [r2]
  simp only
  rw [r3]
  simp only
  rw [hz, Int.toNat_of_nonneg (show 0 ≤ x.c by omega), Int.toNat_of_nonneg (show 0 ≤ x.b by omega), Int.toNat_of_nonneg (show 0 ≤ x.s by omega)]
  simp only [List.length_append, Nat.zero_add, Nat.add_assoc]
  simp
theorem bt_mk (c : UInt8) (l : List UInt8) : bt (mk (c :: l)) 0 = (c.toNat : Int) := by
  have h := bt_data (mk (c :: l)) 0 (by rw [mk_size]; simp)
  rw [h]
  simp [mk]
theorem tkF_br {S : StD} {x : BrD} (hi0 : 1 ≤ x.i) (hi1 : x.i ≤ 65535) (h : brF x = true) : tkF S (brP x) = (⟨S.nc, S.nb, S.cs, S.bs ++ [x], S.us⟩, true) := by
  have e : bt (brP x).k 0 = 98 := by unfold brP; rw [bt_mk]; rfl
  have z : (brP x).k.size ≠ 0 := by unfold brP; rw [mk_size]; simp
  rw [tkF, if_neg z, if_pos e, tkB_put hi0 hi1 h]
theorem tkF_co {S : StD} {x : CoD} (hi0 : 1 ≤ x.n) (hi1 : x.n ≤ 65535) (h : coF x = true) (hd : ∀ o ∈ x.d, o.In) (ho : ∀ o ∈ x.o, o.In) : tkF S (coP x) = (⟨S.nc, S.nb, S.cs ++ [x], S.bs, S.us⟩, true) := by
  have e : bt (coP x).k 0 = 99 := by unfold coP; rw [bt_mk]; rfl
  have z : (coP x).k.size ≠ 0 := by unfold coP; rw [mk_size]; simp
  rw [tkF, if_neg z, if_neg (by rw [e]; decide), if_pos e, tkC_put hi0 hi1 h hd ho]
theorem tkF_nx {S : StD} {n m : Int} (h0 : 1 ≤ n) (h1 : n ≤ 1000000) (h2 : 1 ≤ m) (h3 : m ≤ 1000000) : tkF S (nxP n m) = (⟨n, m, S.cs, S.bs, S.us⟩, true) := by
  have e : bt (nxP n m).k 0 = 110 := by unfold nxP; rw [bt_mk]; rfl
  have z : (nxP n m).k.size ≠ 0 := by unfold nxP; rw [mk_size]; simp
  rw [tkF, if_neg z, if_neg (by rw [e]; decide), if_neg (by rw [e]; decide), if_pos e, tkN_put h0 h1 h2 h3]
theorem tkF_cu {S : StD} {x : CuD} (h0 : 1 ≤ x.c) (h1 : x.c ≤ 8) (h : cuF x = true) : tkF S (cuP x) = (⟨S.nc, S.nb, S.cs, S.bs, S.us ++ [x]⟩, true) := by
  have e : bt (cuP x).k 0 = 117 := by unfold cuP; rw [bt_mk]; rfl
  have z : (cuP x).k.size ≠ 0 := by unfold cuP; rw [mk_size]; simp
  rw [tkF, if_neg z, if_neg (by rw [e]; decide), if_neg (by rw [e]; decide), if_neg (by rw [e]; decide), if_pos e, tkU_put h0 h1 h]
/-- All pairs, one by one. -/
def ldG : StD → List PaD → Option StD
  | S, [] => some S
  | S, x :: r => if (tkF S x).2 = true then ldG (tkF S x).1 r else none
/-- What Load gives. -/
def ldE (l : List PaD) : StD × Int := match ldG zeroS l with
  | none => (zeroS, 150)
  | some S => if (prE S).2 = 0 ∧ (prE S).1 = l then (S, 0) else (zeroS, 150)
theorem ldG_app : ∀ (l m : List PaD) (S : StD), ldG S (l ++ m) = (ldG S l).bind fun T => ldG T m
  | [], m, S => rfl
  | x :: l, m, S => by
    rw [List.cons_append, ldG, ldG]
    split
    · exact ldG_app l m _
    · rfl
theorem ldG_br : ∀ (l : List BrD) (S : StD), (∀ x ∈ l, 1 ≤ x.i ∧ x.i ≤ 65535 ∧ brF x = true) → ldG S (l.map brP) = some ⟨S.nc, S.nb, S.cs, S.bs ++ l, S.us⟩
  | [], S, _ => by simp [ldG]
  | x :: l, S, h => by
    obtain ⟨h1, h2, h3⟩ := h x (by simp)
    rw [List.map_cons, ldG, tkF_br h1 h2 h3, if_pos rfl, ldG_br l _ (fun y hy => h y (by simp [hy]))]
    simp
theorem ldG_co : ∀ (l : List CoD) (S : StD), (∀ x ∈ l, (1 ≤ x.n ∧ x.n ≤ 65535 ∧ coF x = true) ∧ x.Fit) → ldG S (l.map coP) = some ⟨S.nc, S.nb, S.cs ++ l, S.bs, S.us⟩
  | [], S, _ => by simp [ldG]
  | x :: l, S, h => by
    obtain ⟨⟨h1, h2, h3⟩, hf⟩ := h x (by simp)
    rw [List.map_cons, ldG, tkF_co h1 h2 h3 hf.di hf.oi, if_pos rfl, ldG_co l _ (fun y hy => h y (by simp [hy]))]
    simp
theorem ldG_cu : ∀ (l : List CuD) (S : StD), (∀ x ∈ l, 1 ≤ x.c ∧ x.c ≤ 8 ∧ cuF x = true) → ldG S (l.map cuP) = some ⟨S.nc, S.nb, S.cs, S.bs, S.us ++ l⟩
  | [], S, _ => by simp [ldG]
  | x :: l, S, h => by
    obtain ⟨h1, h2, h3⟩ := h x (by simp)
    rw [List.map_cons, ldG, tkF_cu h1 h2 h3, if_pos rfl, ldG_cu l _ (fun y hy => h y (by simp [hy]))]
    simp
theorem ldE_back {S : StD} (h : stF S = true) (hF : S.Fit) : ldE (prD S) = (S, 0) := by
  have hk := st_ok h
  have e : ldG zeroS (prD S) = some S := by
    unfold prD
    rw [ldG_app, ldG_app, ldG_app, ldG_br _ _ hk.bs]
    simp only [Option.bind_some]
    rw [ldG_co _ _ (fun x hx => ⟨hk.cs x hx, hF.cs x hx⟩)]
    simp only [Option.bind_some]
    rw [ldG, tkF_nx hk.c0 hk.c1 hk.b0 hk.b1, if_pos rfl, ldG]
    simp only [Option.bind_some]
    rw [ldG_cu _ _ hk.us]
    simp [zeroS]
  unfold ldE
  rw [e]
  simp only
  rw [if_pos (by rw [prE, if_pos h]; exact ⟨rfl, rfl⟩)]
end Go.Proofs.Ytdheddgdlindmaa
