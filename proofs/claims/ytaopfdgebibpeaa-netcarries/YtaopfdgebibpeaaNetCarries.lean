/-
  Proved: messages that go as letters, doubled and taken in any order, are read as messages that were sent, for whom they were sent (the law NetCarries), for every input.
-/
import Derived.Test.YtaopfdgebibpeaaNcA
import Derived.Test.YtaopfdgebibpeaaBeh
import Derived.ChangeOld
import Derived.Deep.CutBlock
namespace Go.Proofs.Ytaopfdgebibpeaa.netCarries
open Go.Proofs.Ytaopfdgebibpeaa.nt
open Go.RowKit Go.ChangeShapes Go.WideShapes Go.ChangeAt Go.PlainAid

theorem at_app {P : Program} {ops : Array Oper} {Q : Exit → Act → World → Prop} {o : Oper} {rest : List Oper} {a : Act} {w : World} (x y : Operand) (t : TypeId) (_ : o.op = .call { callee := .builtin .append, args := #[x, y], argTypes := #[t, t] }) (h : wpList P ops Q (o :: rest) a w) : wpList P ops Q (o :: rest) a w := h
theorem tm2 (a : Int) : -1 ≤ a.tmod 2 ∧ a.tmod 2 ≤ 1 := by
  cases a with
  | ofNat n => show -1 ≤ ((n % 2 : Nat) : Int) ∧ ((n % 2 : Nat) : Int) ≤ 1; omega
  | negSucc n => show -1 ≤ -(((n + 1) % 2 : Nat) : Int) ∧ -(((n + 1) % 2 : Nat) : Int) ≤ 1; omega
theorem db_mem {N : NtS} {i : Int} {x : LtD} (h : x ∈ N.dbL i) : x ∈ N.L := by
  unfold NtS.dbL at h
  split at h
  · rcases List.mem_append.1 h with h | h
    · exact h
    · rw [Option.mem_toList] at h
      exact List.mem_of_getElem? h
  · exact h
theorem sd_ok {N : NtS} {x : LtD} (h1 : 1 ≤ x.to) (h2 : x.to ≤ 8) (h3 : x.t.size ≤ 30000) (h4 : (N.L.length : Int) < N.room) : N.sdE x = 0 ∧ N.sdL x = N.L ++ [x] := by
  have e : N.sdE x = 0 := by
    unfold NtS.sdE
    rw [if_neg (by omega), if_neg (by omega), if_neg (by omega)]
  exact ⟨e, by unfold NtS.sdL; rw [if_pos e]⟩
theorem snt_put {l : List MsD} {A : List LtD} {k : Nat} (h : Snt l A) (hk : k < l.length) (h40 : k < 40) (hM : mayM l[k] = true) : Snt l (A ++ [⟨l[k].c, mk (frmB l[k])⟩]) := fun x hx => by
  rcases List.mem_append.1 hx with hx | hx
  · exact h x hx
  · simp at hx
    subst hx
    exact ⟨l[k], List.mem_of_getElem? (i := k) (by rw [List.getElem?_take_of_lt h40]; simp [hk]), by simp [fdM, hM], rfl⟩
theorem any_end {l : List MsD} {t : ByteArray} {m : MsD} {j : Nat} (hm : m ∈ l.take 40) (hf : fdM t m = true) (hj : ¬ (j < l.length ∧ j < 40)) (hj1 : j ≤ l.length) (hj2 : j ≤ 40) : (l.take j).any (fdM t) = true := by
  have e : l.take j = l.take 40 := by
    by_cases h : j = 40
    · rw [h]
    · rw [List.take_of_length_le (by omega), List.take_of_length_le (by omega)]
  rw [e, List.any_eq_true]
  exact ⟨m, hm, hf⟩

set_option maxRecDepth 20000 in
set_option maxHeartbeats 2000000 in
theorem walk (v : Value) (l : List MsD) (v' : Value) (ops : List CaD) (w : World) (hr : RdMs w v l) (_ : l.length ≤ 4398046511104) (hi : ∀ m ∈ l, m.d.length ≤ 4398046511104 ∧ ∀ o ∈ m.d, o.In) (hr' : RdC w v' ops) (_ : ops.length ≤ 4398046511104) (hi' : ∀ o ∈ ops, o.Bd) :
    Calls Try.prog 3 #[v, v'] w fun e w' => e = .returned (.bool true) ∧ Below w.heap.size w w' := by
  have hr0 := hr
  obtain ⟨ao, cp, rfl, -⟩ := hr
  obtain ⟨co, cc, rfl, hrc⟩ := hr'
  have c1 := nt.new_fr 100 w (by decide) (by decide)
  go_enter Try.func3, Try.ntmps3
  go_wp2_with fail
  refine c1.mono ?_
  rintro e w1 ⟨N0, rfl, hR0, L1, n1, f1⟩
  have c4 := nt.begun_any w1
  clear c1
  go_wp2_with fail
  refine c4.mono ?_
  rintro e w4 ⟨rfl, hb4⟩
  have hs := f1.below hb4
  clear c4 hb4 f1
  have hk0 : Km w w4 N0 (.slice none 0 0) (.slice none 0 0) [] [] := ⟨hs, World.ownsRow_nil _ _ _ _, World.ownsRow_nil _ _ _ _, by simp [Value.ownBlock], by simp [Value.ownBlock], by simp [Value.ownBlock]⟩
  go_wp2_with fail
  go_loopw [7, 8] (fun sa i wr => ∃ (k : Nat) (N : NtS) (A : List LtD), k ≤ l.length ∧ k ≤ 40 ∧ i = .int .i64 (k : Int) ∧ Km w wr N sa (.slice none 0 0) A [] ∧ N.L = A ∧ N.room = 100 ∧ N.p = N0.p ∧ N.n ≤ k ∧ A.length ≤ k ∧ Hid (Snt l A)) (fun _ i _ => 40 - (Go.RowKit.intOf i).toNat)
  case atStart => exact ⟨0, N0, [], Nat.zero_le _, Nat.zero_le _, rfl, hk0, L1, hR0, rfl, by omega, Nat.le_refl _, fun x hx => by simp at hx⟩
  case round =>
    clear hs L1 n1 hk0 hR0
    obtain ⟨k, N, A, hk, hk40, rfl, hK, hNL, hrm, hp0, hn, hA, HS⟩ := hrel
    have hp : Hid (N.p = N0.p) := hp0
    clear hp0
    obtain ⟨aA, kA, rfl⟩ := own_form hK.ra
    go_upto_region 6 with fail
    go_cut [43] (fun c wx => ((c = .bool true ∧ k < l.length ∧ k < 40) ∨ (c = .bool false ∧ ¬ (k < l.length ∧ k < 40))) ∧ wx = wr)
    case first =>
      clear hK HS hi hr0 hrc hi'
      by_cases h1 : k < l.length
      · have h1' : (k : Int) < (l.length : Int) := by omega
        by_cases h2 : k < 40
        · have h2' : (k : Int) < 40 := by omega
          go_wp2_with fail
          go_meet
          exact ⟨.inl ⟨rfl, h1, h2⟩, rfl⟩
        · have h2' : ¬ (k : Int) < 40 := by omega
          go_wp2_with fail
          go_meet
          exact ⟨.inr ⟨rfl, by omega⟩, rfl⟩
      · have h1' : ¬ (k : Int) < (l.length : Int) := by omega
        go_wp2_with fail
        go_meet
        exact ⟨.inr ⟨rfl, by omega⟩, rfl⟩
    case rest =>
      obtain ⟨hcut, rfl⟩ := hcut
      rcases hcut with ⟨rfl, hlt, h40⟩ | ⟨rfl, hstop⟩
      · have hlt' : (k : Int) < (l.length : Int) := by omega
        obtain ⟨b, off, u, rfl, hcs⟩ := rdms_at hr0 (i := k) (m := l[k]) (by simp [hlt])
        obtain ⟨d0, d1, d2, d3, d4, d5, d6, hrd⟩ := hcs _ hK.fn.bel
        obtain ⟨hdl, hdi⟩ := hi l[k] (by simp)
        have cE := wencode_any l[k] u _ hrd (by unfold maxLen; omega) hdi
        have HP : mayM l[k] = true → Hid (Snt l (A ++ [⟨l[k].c, mk (frmB l[k])⟩])) := fun h => snt_put HS.out hlt h40 h
        have hfl := frmB_len l[k] hdi
        obtain ⟨uo, uc, eu, -⟩ := id hrd
        subst eu
        cases hM : mayM l[k] with
        | false =>
          have e0 : weR l[k] = (⟨#[]⟩, 160) := by rw [weR, hM]; rfl
          rw [e0] at cE
          unfold MsD.fs at cE
          clear e0 hM HP hrd hdl hdi hcs hr0 hi hrc hi' hfl
          generalize l[k] = m at *
          go_wp2_with fail
          refine cE.mono ?_
          rintro e w5 ⟨rfl, q5⟩
          replace hK := hK.below q5
          clear cE d0 d1 d2 d3 d4 d5 d6
          go_wp2_with fail
          exact ⟨⟨k + 1, N, A, by omega, by omega, by go_num, hK, hNL, hrm, hp.out, by omega, by omega, HS⟩, by simp [Go.RowKit.intOf]; omega⟩
        | true =>
          have e0 : weR l[k] = (mk (frmB l[k]), 0) := by rw [weR, hM]; rfl
          have hmp := may_parts hM
          rw [e0] at cE
          unfold MsD.fs at cE
          have HP2 := HP hM
          have hsz : (mk (frmB l[k])).size ≤ 30000 := by rw [mk_size]; omega
          clear e0 hM HP hdl hdi hr0 hi hrc hi' hfl HS
          generalize l[k] = m at *
          generalize mk (frmB m) = t at *
          obtain ⟨hc1, hc2⟩ : 1 ≤ m.c ∧ m.c ≤ 8 := ⟨hmp.2.2.1, hmp.2.2.2.1⟩
          have hsd := sd_ok (N := N) (x := ⟨m.c, t⟩) hc1 hc2 hsz (by rw [hNL, hrm]; omega)
          clear hmp hrd
          go_wp2_with fail
          refine cE.mono ?_
          rintro e w5 ⟨rfl, q5⟩
          replace hK := hK.below q5
          clear cE d0 d1 d2 d3 d4 d5 d6
          obtain ⟨-, -, d2, -, -, -, -, -⟩ := hcs _ hK.fn.bel
          clear hcs q5
          have hG := grow1 w5 (.cells #[.int .i64 m.c, .string t] 36)
          have hlb := lb_new w5 ⟨m.c, t⟩
          have hq1 : w5.heap.size ∉ N.bl := fun e => Nat.lt_irrefl _ (hK.fn.net.lt _ e)
          replace hK := hK.below hG
          have cS := nt.send_any N ⟨m.c, t⟩ _ hK.fn.net (by omega)
          rw [hp.out, hsd.1, hsd.2] at cS
          obtain ⟨y0, y1, -, -⟩ := hlb.facts
          simp only at y0 y1 hlb
          unfold LtD.v at cS
          simp only at cS
          clear hsd hsz hG
          generalize m.c = mc at *
          go_wp2_with (first
            | (go_at_call 7; refine cS.mono ?_; rintro e wA ⟨rfl, N', hAf⟩; have hK6 := hK.step hAf; have hP6 := hlb.only hAf.on hq1; obtain ⟨z2, z3, -, -⟩ := hP6.facts; simp only at z2 z3; have hK7 := hK6.below (grow1 wA (.cells #[.int .i64 mc, .string t] 36)))
            | (with_reducible refine at_app _ _ _ rfl ?_; refine wpList_app_one _ rfl _ _ rfl w.heap.size (.slice aA A.length kA) A ⟨mc, t⟩ wA.heap.size rfl rfl (heap_alloc_new wA _) hK7.ra hK7.fn.bel.size (by omega) ?_; intro u' w9 ho9 hg9 hq9; have hK9 := hK7.inA ho9 hg9 hq9))
          exact ⟨⟨k + 1, N', A ++ [⟨mc, t⟩], by omega, by omega, by go_num, hK9, by rw [hAf.L, hNL], by rw [hAf.room, hrm], hAf.p.trans hp.out, by have := hAf.n; omega, by simp; omega, HP2⟩, by simp [Go.RowKit.intOf]; omega⟩
      · have hin0 : ∀ x ∈ N.L, x ∈ A := fun x hx => by rw [← hNL]; exact hx
        have hA40 : A.length ≤ 4000 := by omega
        have hn40 : N.n ≤ 40 := by omega
        clear hk hk40 hstop hNL hrm hA
        go_wp2_with fail
        go_loopw [12] (fun i wr => ∃ (k : Nat) (N : NtS), k ≤ ops.length ∧ k ≤ 60 ∧ i = .int .i64 (k : Int) ∧ Km w wr N (.slice aA A.length kA) (.slice none 0 0) A [] ∧ (∀ x ∈ N.L, x ∈ A) ∧ N.p = N0.p ∧ N.n ≤ 40 + k) (fun i _ => 60 - (Go.RowKit.intOf i).toNat)
        case atStart => exact ⟨0, N, Nat.zero_le _, Nat.zero_le _, rfl, hK, hin0, hp.out, by omega⟩
        case round =>
          clear hK hin0 hp hn hn40
          obtain ⟨k, N, hk, hk60, rfl, hK, hin, hp0, hn⟩ := hrel
          have hp : Hid (N.p = N0.p) := hp0
          clear hp0
          by_cases hlt : k < ops.length
          · have hlt' : (k : Int) < (ops.length : Int) := by omega
            by_cases h60 : k < 60
            · have h60' : (k : Int) < 60 := by omega
              obtain ⟨b, off, rfl, hbw, d0, d1, -, -⟩ := hrc k ops[k] (by simp [hlt])
              have gc := fun W (h : Below w.heap.size w W) (j : Nat) => h.cell (p := ⟨b, j, none⟩) hbw
              have hob := hi' ops[k] (by simp)
              obtain ⟨bk0, bk1, bn0, bn1⟩ := hob
              generalize ops[k] = o at *
              have hlen : N.L.length ≤ 3000 := by have := hK.fn.net.len; have := hK.fn.net.rm; omega
              have cL : ∀ s : Beh wr, Calls Try.prog 9 #[.pointer (some ⟨N0.p, 0, none⟩)] s.it fun e w' => e = .returned (.int .i64 (N.L.length : Int)) ∧ Below s.it.heap.size s.it w' := fun s => by
                have h := nt.len_any N s.it (hK.fn.net.below s.h)
                rw [hp.out] at h
                exact h.mono fun _ _ ⟨h1, h2⟩ => ⟨h1, by rw [h2]; exact Below.refl _ _⟩
              have cP : ∀ s : Beh wr, Calls Try.prog 8 #[.int .i64 o.n, .int .i64 ((N.L.length : Int) + 1)] s.it fun e w' => e = .returned (.int .i64 (pickD o.n (N.L.length + 1) : Int)) ∧ Below s.it.heap.size s.it w' := fun s => by
                have h := nt.pick_any o.n (N.L.length + 1) s.it (by omega) (by omega) bn0 bn1
                rw [show ((N.L.length + 1 : Nat) : Int) = (N.L.length : Int) + 1 by omega] at h
                exact h.mono fun _ _ ⟨h1, h2⟩ => ⟨h1, by rw [h2]; exact Below.refl _ _⟩
              generalize pickD o.n (N.L.length + 1) = a at *
              have e1 : ∀ s : Beh wr, s.it.cell? ⟨b, off + k * 4 + 1, none⟩ = some (.int .i64 o.n) := fun s => (gc _ (chain hK.fn.bel s.h) _).trans d1
              go_upto_region 17 with fail
              go_cut [13] (fun c wx => c = .int .i64 (a : Int) ∧ Below wr.heap.size wr wx)
              case first =>
                clear hr0 hrc hi hi' HS
                refine wp_region_beh (by kernel_rfl) (by kernel_rfl) ?_
                repeat (go_big_quiet_step ((first | (go_at_call 9; exact Beh.call (cL _)) | (go_at_call 8; exact Beh.call (cP _)))))
                refine wpQuiet_nil ?_
                intro wq hw'
                have hwq := Beh.out hw'
                clear hw' e1
                go_wp2_with fail
                go_meet
                exact ⟨rfl, hwq⟩
              case rest =>
                obtain ⟨rfl, hx⟩ := hcut
                replace hK := hK.below hx
                clear e1 cL cP hx bn0 bn1
                obtain ⟨wS, hwS⟩ : ∃ y, y = wc := ⟨_, rfl⟩
                replace d0 := (gc _ hK.fn.bel _).trans d0
                have ht2 := tm2 o.k
                clear gc d1
                generalize hz : o.k.tmod 2 = z at *
                by_cases he : z = 0
                · have cD := nt.double_any N (a : Int) _ hK.fn.net (by omega)
                  rw [hp.out] at cD
                  generalize N.dbE (a : Int) = E at *
                  subst he
                  clear hr0 hrc hi hi'
                  go_wp2_with fail
                  refine cD.mono ?_
                  rintro e w5 ⟨rfl, N', hAf⟩
                  replace hK := hK.step hAf
                  clear cD d0
                  go_wp2_with fail
                  exact ⟨⟨k + 1, N', by omega, by omega, by go_num, hK, fun x hx => hin x (db_mem (by rw [← hAf.L]; exact hx)), hAf.p.trans hp.out, by have := hAf.n; omega⟩, by simp [Go.RowKit.intOf]; omega⟩
                · have he' : (z == 0) = false := by simpa using he
                  have cT := nt.take_any N (a : Int) _ hK.fn.net (by omega)
                  rw [hp.out] at cT
                  by_cases hI : N.hasI (a : Int) = true
                  · have haL : a < N.L.length := by have := (hasI_iff.1 hI).2; omega
                    have t1 : N.tkV a = N.L[a] := by unfold NtS.tkV; rw [if_pos hI]; simp [haL]
                    have t2 : N.tkE a = 0 := by unfold NtS.tkE; rw [if_pos hI]
                    have t3 : N.tkL a = N.L.eraseIdx a := by unfold NtS.tkL; rw [if_pos hI]; simp
                    have hxA := hin N.L[a] (by simp)
                    rw [t1, t2, t3] at cT
                    generalize N.L[a] = x at *
                    obtain ⟨m, hml, hfd, hto⟩ := HS.out x hxA
                    have hmi := (hi m (List.mem_of_mem_take hml)).2
                    have hfp : mayM m = true ∧ mk (frmB m) = x.t := by simpa [fdM] using hfd
                    have hwd := wd_form hfp.1 hmi
                    rw [hfp.2] at hwd
                    have hxs : x.t.size ≤ 10100 := by rw [← hfp.2, mk_size]; exact frmB_len m hmi
                    have hdl := (hi m (List.mem_of_mem_take hml)).1
                    have cDc := fun W => wdecode_any x.t W (by unfold maxLen; omega)
                    rw [hwd] at cDc
                    simp only at cDc
                    have hcp : 0 < nt.cnt A x := List.count_pos_iff.2 hxA
                    have HF : Hid (∀ n ∈ l, fdM x.t n = true → n = m) := fun n hn h => fd_same h hfd (hi n hn).2 hmi
                    have HM := (show Hid _ from And.intro hml hfd)
                    have HTo : Hid (x.to = m.c) := hto
                    clear hI t1 t2 t3 hfp hwd hxA hfd hml hto
                    unfold LtD.v at cT
                    unfold MsD.fs at cDc
                    go_wp2_with (go_at_call 11; refine cT.mono ?_; rintro e wA ⟨rfl, N', hAf⟩; have hK6 := hK.step hAf; have hK7 := hK6.below (grow1 wA (.cells #[.int .i64 x.to, .string x.t] 36)); have hl7 := lb_new wA x; obtain ⟨z0, z1, -, -⟩ := hl7.facts)
                    refine (cDc _).mono ?_
                    rintro e y1 ⟨v1, rfl, hy1, q1⟩
                    have r1 := rdd_own hy1
                    obtain ⟨aq, cq, rfl⟩ := own_form hy1
                    have hGm := grow1 y1 (.cells #[.int .i64 m.k, .int .i64 m.b, .int .i64 m.c, .int .i64 m.s, .int .i64 m.r, .int .i64 m.y, .slice aq m.d.length cq] 34)
                    have hMB : MB (y1.alloc (.cells #[.int .i64 m.k, .int .i64 m.b, .int .i64 m.c, .int .i64 m.s, .int .i64 m.r, .int .i64 m.y, .slice aq m.d.length cq] 34)) y1.heap.size m (.slice aq m.d.length cq) := heap_alloc_new y1 _
                    replace hK7 := (hK7.below q1).below hGm
                    replace hl7 := LB.below (LB.below hl7 q1) hGm
                    replace r1 := r1.below hGm
                    clear cT cDc hK hK6 hy1 q1 hGm z0 z1
                    obtain ⟨z0, z1, -, -⟩ := hl7.facts
                    have cC := nt.count_any (.slice aA A.length kA) A x _ (rdl_own hK7.ra) (by omega)
                    unfold LtD.v at cC
                    have hp' : N'.p = N0.p := hAf.p.trans hp.out
                    have hin' : ∀ y ∈ N'.L, y ∈ A := fun y hy => hin y (by rw [hAf.L] at hy; exact List.mem_of_mem_eraseIdx hy)
                    have hn' : N'.n ≤ 40 + (k + 1) := by have := hAf.n; omega
                    have hcn : ¬ (nt.cnt A x : Int) = 0 := by omega
                    have hcn' : ((nt.cnt A x : Int) == 0) = false := by simpa using hcn
                    obtain ⟨g0, g1, g2, g3, g4, g5, g6⟩ := hMB.cells
                    clear hAf hin hp hn hlen hcp
                    generalize nt.cnt A x = q at *
                    have hmc : (m.c != x.to) = false := by rw [HTo.out]; simp
                    clear HTo
                    go_wp2_with fail
                    refine cC.mono ?_
                    rintro e w7 ⟨rfl, q7⟩
                    replace hK7 := hK7.below q7
                    replace hl7 := LB.below hl7 q7
                    replace hMB := hMB.below q7
                    replace r1 := r1.below q7
                    have h07 := hK7.fn.bel
                    clear cC g0 g1 g2 g3 g4 g5 g6 z0 z1 q7 d0
                    generalize wA.heap.size = pL at *
                    generalize y1.heap.size = pM at *
                    go_wp2_with fail
                    obtain ⟨wT, hwT⟩ : ∃ y, y = wr := ⟨_, rfl⟩
                    go_loopw [18, 19] (fun f i wr => ∃ j : Nat, j ≤ l.length ∧ j ≤ 40 ∧ i = .int .i64 (j : Int) ∧ f = .bool ((l.take j).any (fdM x.t)) ∧ Below w7.heap.size w7 wr) (fun _ i _ => 40 - (Go.RowKit.intOf i).toNat)
                    case atStart => exact ⟨0, Nat.zero_le _, Nat.zero_le _, rfl, by simp, Below.refl _ _⟩
                    case round =>
                      obtain ⟨j, hj, hj40, rfl, rfl, hbj⟩ := hrel
                      clear hwT hwS
                      by_cases hjl : j < l.length
                      · have hjl' : (j : Int) < (l.length : Int) := by omega
                        by_cases hj4 : j < 40
                        · have hj4' : (j : Int) < 40 := by omega
                          have hbw2 := chain h07 hbj
                          obtain ⟨b3, off3, u3, rfl, hcs⟩ := rdms_at hr0 (i := j) (m := l[j]) (by simp [hjl])
                          obtain ⟨c0, c1, c2, c3, c4, c5, c6, hrd⟩ := hcs _ hbw2
                          obtain ⟨hdl3, hdi3⟩ := hi l[j] (by simp)
                          have cE := wencode_any l[j] u3 _ hrd (by unfold maxLen; omega) hdi3
                          have HT := (show Hid _ from fd_take (t := x.t) (l := l) hjl)
                          have HF3 : Hid (fdM x.t l[j] = true → l[j] = m) := fun h => HF.out l[j] (List.getElem_mem hjl) h
                          obtain ⟨uo, uc, eu, -⟩ := id hrd
                          subst eu
                          unfold MsD.fs at cE
                          generalize l[j] = n at *
                          go_wp2_with fail
                          refine cE.mono ?_
                          rintro e w8 ⟨rfl, q8⟩
                          have hbj8 := chain hbj q8
                          have hbw8 := chain h07 hbj8
                          clear cE c0 c1 c2 c3 c4 c5 c6 hrd hbj hbw2
                          go_upto_region 30 with fail
                          cases hf : (l.take j).any (fdM x.t) with
                          | true =>
                            rw [hf] at HT
                            have HR : Hid ((l.take (j + 1)).any (fdM x.t) = true) := by show _ = _; rw [HT.out]; rfl
                            clear HT hf HF3 HF HM hcs hr0 hi hrc hi' HS hK7 hMB hl7
                            generalize weR n = en at *
                            refine wp_region_beh (by kernel_rfl) (by kernel_rfl) ?_
                            repeat (go_big_quiet_step (fail))
                            refine wpQuiet_nil ?_
                            intro wq hw'
                            have hwq := Beh.out hw'
                            clear hw'
                            go_wp2_with fail
                            exact ⟨⟨j + 1, by omega, by omega, by go_num, by rw [HR.out], chain hbj8 hwq⟩, by simp [Go.RowKit.intOf]; omega⟩
                          | false =>
                            rw [hf] at HT
                            have HR : Hid ((l.take (j + 1)).any (fdM x.t) = fdM x.t n) := by show _ = _; rw [HT.out]; rfl
                            cases hM : mayM n with
                            | false =>
                              have e1 : (weR n).1 = ⟨#[]⟩ := by rw [weR, hM]; rfl
                              have e2 : (weR n).2 = 160 := by rw [weR, hM]; rfl
                              have HR2 : Hid ((l.take (j + 1)).any (fdM x.t) = false) := by show _ = _; rw [HR.out, fdM, hM]; rfl
                              rw [e1, e2]
                              clear HT hf HF3 HF HM hcs hr0 hi hrc hi' HS hK7 hMB hl7 e1 e2 hM HR
                              refine wp_region_beh (by kernel_rfl) (by kernel_rfl) ?_
                              repeat (go_big_quiet_step (fail))
                              refine wpQuiet_nil ?_
                              intro wq hw'
                              have hwq := Beh.out hw'
                              clear hw'
                              go_wp2_with fail
                              exact ⟨⟨j + 1, by omega, by omega, by go_num, by rw [HR2.out], chain hbj8 hwq⟩, by simp [Go.RowKit.intOf]; omega⟩
                            | true =>
                              have e1 : (weR n).1 = mk (frmB n) := by rw [weR, hM]; rfl
                              have e2 : (weR n).2 = 0 := by rw [weR, hM]; rfl
                              have l1 : ∀ s : Beh w8, s.it.cell? ⟨pL, 1, none⟩ = some (.string x.t) := fun s => (LB.below hl7 (chain hbj8 s.h)).facts.2.1
                              rw [e1, e2]
                              by_cases ht : mk (frmB n) = x.t
                              · have hfn : fdM x.t n = true := by simp [fdM, hM, ht]
                                have HR2 : Hid ((l.take (j + 1)).any (fdM x.t) = true) := by show _ = _; rw [HR.out, hfn]
                                obtain rfl := HF3.out hfn
                                have k0 := fun s : Beh w8 => (hcs _ (chain hbw8 s.h)).1
                                have k1 := fun s : Beh w8 => (hcs _ (chain hbw8 s.h)).2.1
                                have k2 := fun s : Beh w8 => (hcs _ (chain hbw8 s.h)).2.2.1
                                have k3 := fun s : Beh w8 => (hcs _ (chain hbw8 s.h)).2.2.2.1
                                have k4 := fun s : Beh w8 => (hcs _ (chain hbw8 s.h)).2.2.2.2.1
                                have k5 := fun s : Beh w8 => (hcs _ (chain hbw8 s.h)).2.2.2.2.2.1
                                have k6 := fun s : Beh w8 => (hcs _ (chain hbw8 s.h)).2.2.2.2.2.2.1
                                have j0 := fun s : Beh w8 => (hMB.below (chain hbj8 s.h)).cells.1
                                have j1 := fun s : Beh w8 => (hMB.below (chain hbj8 s.h)).cells.2.1
                                have j2 := fun s : Beh w8 => (hMB.below (chain hbj8 s.h)).cells.2.2.1
                                have j3 := fun s : Beh w8 => (hMB.below (chain hbj8 s.h)).cells.2.2.2.1
                                have j4 := fun s : Beh w8 => (hMB.below (chain hbj8 s.h)).cells.2.2.2.2.1
                                have j5 := fun s : Beh w8 => (hMB.below (chain hbj8 s.h)).cells.2.2.2.2.2.1
                                have j6 := fun s : Beh w8 => (hMB.below (chain hbj8 s.h)).cells.2.2.2.2.2.2
                                have cSm := fun s : Beh w8 => sameM_true n _ _ s.it (by unfold maxLen; omega) (hcs _ (chain hbw8 s.h)).2.2.2.2.2.2.2 (r1.below (chain hbj8 s.h))
                                unfold MsD.fs at cSm
                                clear HT hf HF3 HF HM hcs hr0 hi hrc hi' HS hK7 hMB hl7 e1 e2 hM HR hfn r1
                                rw [ht]
                                clear ht
                                refine wp_region_beh (by kernel_rfl) (by kernel_rfl) ?_
                                repeat (go_big_quiet_step ((go_at_call 14; exact Beh.call (cSm _))))
                                refine wpQuiet_nil ?_
                                intro wq hw'
                                have hwq := Beh.out hw'
                                clear hw'
                                go_wp2_with fail
                                exact ⟨⟨j + 1, by omega, by omega, by go_num, by rw [HR2.out], chain hbj8 hwq⟩, by simp [Go.RowKit.intOf]; omega⟩
                              · have HR2 : Hid ((l.take (j + 1)).any (fdM x.t) = false) := by show _ = _; rw [HR.out]; simp [fdM, ht]
                                have ht2 : ¬ (mk (frmB n)).toList = x.t.toList := str_ne ht
                                have ht4 : decide (mk (frmB n) = x.t) = false := by simpa using ht
                                have ht5 : ((mk (frmB n)).toList == x.t.toList) = false := by simpa using ht2
                                have ht6 : decide ((mk (frmB n)).toList = x.t.toList) = false := by simpa using ht2
                                clear HT hf HF3 HF HM hcs hr0 hi hrc hi' HS hK7 hMB hl7 e1 e2 hM HR
                                generalize mk (frmB n) = s0 at *
                                refine wp_region_beh (by kernel_rfl) (by kernel_rfl) ?_
                                repeat (go_big_quiet_step (fail))
                                refine wpQuiet_nil ?_
                                intro wq hw'
                                have hwq := Beh.out hw'
                                clear hw'
                                go_wp2_with fail
                                exact ⟨⟨j + 1, by omega, by omega, by go_num, by rw [HR2.out], chain hbj8 hwq⟩, by simp [Go.RowKit.intOf]; omega⟩
                        · have hj4' : ¬ (j : Int) < 40 := by omega
                          have hT := any_end HM.out.1 HM.out.2 (j := j) (by omega) hj hj40
                          rw [hT]
                          have hKX := hK7.below hbj
                          clear hT HM HF hr0 hi hrc hi' HS hK7 hMB hl7 r1
                          go_wp2_with fail
                          exact ⟨⟨k + 1, N', by omega, by omega, by go_num, hKX, hin', hp', hn'⟩, by simp [Go.RowKit.intOf]; omega⟩
                      · have hjl' : ¬ (j : Int) < (l.length : Int) := by omega
                        have hT := any_end HM.out.1 HM.out.2 (j := j) (by omega) hj hj40
                        rw [hT]
                        have hKX := hK7.below hbj
                        clear hT HM HF hr0 hi hrc hi' HS hK7 hMB hl7 r1
                        go_wp2_with fail
                        exact ⟨⟨k + 1, N', by omega, by omega, by go_num, hKX, hin', hp', hn'⟩, by simp [Go.RowKit.intOf]; omega⟩
                  · have t1 : N.tkV a = noL := by unfold NtS.tkV; rw [if_neg hI]
                    have t2 : N.tkE a = 171 := by unfold NtS.tkE; rw [if_neg hI]
                    have t3 : N.tkL a = N.L := by unfold NtS.tkL; rw [if_neg hI]
                    rw [t1, t2, t3] at cT
                    unfold LtD.v noL at cT
                    clear hI t1 t2 t3 hr0 hi hrc hi' HS
                    go_wp2_with (go_at_call 11; refine cT.mono ?_; rintro e wA ⟨rfl, N', hAf⟩; have hK6 := hK.step hAf; have hK7 := hK6.below (grow1 wA (.cells #[.int .i64 0, .string ⟨#[]⟩] 36)))
                    exact ⟨⟨k + 1, N', by omega, by omega, by go_num, hK7, fun y hy => hin y (by rw [hAf.L] at hy; exact hy), hAf.p.trans hp.out, by have := hAf.n; omega⟩, by simp [Go.RowKit.intOf]; omega⟩
            · have h60' : ¬ (k : Int) < 60 := by omega
              have hB := hK.fn.bel
              clear hK hr0 hrc hi hi' HS hin
              go_wp2_with fail
              go_ret
              exact ⟨rfl, hB⟩
          · have hlt' : ¬ (k : Int) < (ops.length : Int) := by omega
            have hB := hK.fn.bel
            clear hK hr0 hrc hi hi' HS hin
            go_wp2_with fail
            go_ret
            exact ⟨rfl, hB⟩

theorem own : ownKnob Try.prog.godebug = none := by kernel_rfl
theorem laidOut : laidOutB Try.prog = true := by kernel_rfl

set_option maxRecDepth 20000 in
theorem contract (H : Type) (enc : TypeId × Value → H) (W : World) (base : Nat) (args : Array Value) (ds gs : List (DataW H)) (before : List MemPlace)
    (hval : ∀ (j : Nat) t v, Try.f3.params[j]? = some t → args[j]? = some v → Value.okWide Try.prog W .any base t v)
    (hW : DataW.Whole enc Try.prog Try.f3.params.toList Rows.netCarriesSpec.vars false W args.toList ds gs before) (hsz0 : (DataW.weightsEach Try.prog (Try.f3.params.toList ++ Rows.netCarriesSpec.plain.varTypes Try.prog) (ds ++ gs)).all (· ≤ reachBytes) = true) :
    Calls Try.prog 3 args W fun e W' => ∃ v, e = .returned v ∧ Rows.netCarriesSpec.post enc Try.prog Try.f3 false true false false W args v W' := by
  have hW' := hW
  obtain ⟨p, q, hA0, hV, rfl, hfz, hnd⟩ := hW
  have hA : DataW.TrodAll enc Try.prog W 0 (fun _ => true) true Try.f3.params.toList args.toList ds p := hA0
  rw [Try.params3] at hA hval hsz0
  obtain ⟨v0, vs0, d0, ds0, p0, q0, hargs, rfl, rfl, h0, r0⟩ := trodAll_cons hA
  obtain ⟨v1, vs1, d1, ds1, p1, q1, rfl, rfl, rfl, h1, r1⟩ := trodAll_cons r0
  obtain ⟨rfl, rfl, rfl⟩ := trodAll_nil r1
  obtain rfl : args = #[v0, v1] := by cases args; simp_all
  obtain ⟨rfl, rfl⟩ := trodVars_none hV
  have k0 := h0
  have lt0 : ∀ x ∈ p0, x.block < W.heap.size := by obtain ⟨m, hm⟩ := k0; exact DataW.trod_lt m _ _ _ hm
  have k1 := h1
  have lt1 : ∀ x ∈ p1, x.block < W.heap.size := by obtain ⟨m, hm⟩ := k1; exact DataW.trod_lt m _ _ _ hm
  obtain ⟨a0, len0, cap0, rfl⟩ := okWide_slice Try.underlying22 (hval 0 22 v0 rfl rfl)
  obtain ⟨fuel0, hf0⟩ := h0
  have z0 : ∀ n ∈ d0.weights Try.prog 22, n ≤ reachBytes := fun n hn => by simpa using List.all_eq_true.1 hsz0 n (DataW.weights_mem_each (j := 0) (t := 22) (d := d0) rfl rfl n hn)
  obtain ⟨l0, rd0, ln0, ok0⟩ := open_mss hf0 z0
  obtain ⟨a1, len1, cap1, rfl⟩ := okWide_slice Try.underlying23 (hval 1 23 v1 rfl rfl)
  obtain ⟨fuel1, hf1⟩ := h1
  have z1 : ∀ n ∈ d1.weights Try.prog 23, n ≤ reachBytes := fun n hn => by simpa using List.all_eq_true.1 hsz0 n (DataW.weights_mem_each (j := 1) (t := 23) (d := d1) rfl rfl n hn)
  obtain ⟨l1, rd1, ln1, ok1⟩ := open_nop hf1 z1
  clear hA0
  simp only [List.append_nil] at hW'
  refine (walk (.slice a0 len0 cap0) l0 (.slice a1 len1 cap1) l1 W rd0 ln0 ok0 rd1 ln1 ok1).mono fun e W' ⟨he, bel⟩ => ?_
  subst he
  exact ⟨_, rfl, _, _, _, [], _, [], hW', trodAll_mk1 (shut_bool Try.underlying4 _), (trodAll_cons_mk (Below.trod laidOut (by kernel_rfl) (of_decide_eq_true (by kernel_rfl)) k0 bel lt0) (trodAll_cons_mk (Below.trod laidOut (by kernel_rfl) (of_decide_eq_true (by kernel_rfl)) k1 bel lt1) trodAll_mk0)), rfl, bel.frame _, fun h => by cases h⟩

set_option maxRecDepth 100000 in
theorem lifted (os : Os) (started : os.Started) (H : Type) (enc : TypeId × Value → H) :
    ReturnsInHanded {} Try.checked os 3 .any (Rows.netCarriesSpec.pre6 enc Try.prog Try.f3 Rows.netCarriesRow.domain false) (Rows.netCarriesSpec.post enc Try.prog Try.f3 false true false false) := by
  refine returnsInHanded_of_change_sized (C := Try.checked) own started (by kernel_rfl) Try.func3
    (ChangeSpec.witness6 (enc := enc) (C := Try.checked) false ⟨#[], #[.slice none 0 0, .slice none 0 0], []⟩ 8 (by kernel_rfl) (by kernel_rfl) (by kernel_rfl) (by kernel_rfl)) ?_
  intro W base args ds gs before hval hW _ hsz _
  exact contract H enc W base args ds gs before hval hW hsz

theorem holds : Rows.NetCarriesSaid :=
  OpenClaim.holds_of_wide 3 Try.f3 rfl rfl rfl rfl rfl rfl rfl ⟨rfl, rfl, rfl, rfl, rfl⟩ rfl rfl rfl rfl rfl (by kernel_rfl) Try.func3 (by kernel_rfl)
    (of_decide_eq_true (by kernel_rfl)) (by unfold Func.isWrapper; first | (rw [if_pos (by decide +kernel)]; kernel_rfl) | (rw [if_neg (by decide +kernel)]; exact ⟨rfl, rfl⟩))
    (fun os started H enc _ => lifted os started H enc)
end Go.Proofs.Ytaopfdgebibpeaa.netCarries
namespace Go.Proofs.Ytaopfdgebibpeaa
theorem netCarries_holds : Rows.NetCarriesSaid := netCarries.holds
#print axioms netCarries_holds
end Go.Proofs.Ytaopfdgebibpeaa
