/-
  The plain mathematics of a length's decimal places: which digits the document's procedure writes, and that they are read as the part of a point that they were written for; no program is mentioned here.
-/
namespace Go.Proofs.YtmehldekebphfaaGreatDoor.Fr

/-- the digits that the procedure writes from s and d on; none where it does not end in time, or would fall below 0 -/
def frac : Nat → Nat → Nat → Option (List Nat)
  | 0, _, _ => none
  | fuel + 1, s, d =>
    if 65536 < d then
      if s < 17232 then none
      else if 10 * ((s - 17232) % 65536) ≤ 10 * d then some [(s - 17232) / 65536] else (frac fuel (10 * ((s - 17232) % 65536)) (10 * d)).map ((s - 17232) / 65536 :: ·)
    else if 10 * (s % 65536) ≤ 10 * d then some [s / 65536] else (frac fuel (10 * (s % 65536)) (10 * d)).map (s / 65536 :: ·)
/-- what the digits are read as -/
def acc : List Nat → Nat
  | [] => 0
  | d :: r => (acc r + 131072 * d) / 10
def okAt (r : Nat) : Bool :=
  match frac 5 (10 * r + 5) 10 with
  | none => false
  | some ds => Nat.beq ((acc ds + 1) / 2) r && ds.all (fun d => Nat.ble d 9)
def allTo : Nat → Nat → Bool
  | 0, _ => true
  | n + 1, k => okAt (k + n) && allTo n k
theorem allTo_at : ∀ (n k r : Nat), allTo n k = true → k ≤ r → r < k + n → okAt r = true
  | 0, k, r, _, h1, h2 => by omega
  | n + 1, k, r, h, h1, h2 => by
    simp only [allTo, Bool.and_eq_true] at h
    by_cases e : r = k + n
    · rw [e]; exact h.1
    · exact allTo_at n k r h.2 h1 (by omega)
set_option maxRecDepth 100000 in
theorem c0 : allTo 1024 0 = true := by decide +kernel
set_option maxRecDepth 100000 in
theorem c1 : allTo 1024 1024 = true := by decide +kernel
set_option maxRecDepth 100000 in
theorem c2 : allTo 1024 2048 = true := by decide +kernel
set_option maxRecDepth 100000 in
theorem c3 : allTo 1024 3072 = true := by decide +kernel
set_option maxRecDepth 100000 in
theorem c4 : allTo 1024 4096 = true := by decide +kernel
set_option maxRecDepth 100000 in
theorem c5 : allTo 1024 5120 = true := by decide +kernel
set_option maxRecDepth 100000 in
theorem c6 : allTo 1024 6144 = true := by decide +kernel
set_option maxRecDepth 100000 in
theorem c7 : allTo 1024 7168 = true := by decide +kernel
set_option maxRecDepth 100000 in
theorem c8 : allTo 1024 8192 = true := by decide +kernel
set_option maxRecDepth 100000 in
theorem c9 : allTo 1024 9216 = true := by decide +kernel
set_option maxRecDepth 100000 in
theorem c10 : allTo 1024 10240 = true := by decide +kernel
set_option maxRecDepth 100000 in
theorem c11 : allTo 1024 11264 = true := by decide +kernel
set_option maxRecDepth 100000 in
theorem c12 : allTo 1024 12288 = true := by decide +kernel
set_option maxRecDepth 100000 in
theorem c13 : allTo 1024 13312 = true := by decide +kernel
set_option maxRecDepth 100000 in
theorem c14 : allTo 1024 14336 = true := by decide +kernel
set_option maxRecDepth 100000 in
theorem c15 : allTo 1024 15360 = true := by decide +kernel
set_option maxRecDepth 100000 in
theorem c16 : allTo 1024 16384 = true := by decide +kernel
set_option maxRecDepth 100000 in
theorem c17 : allTo 1024 17408 = true := by decide +kernel
set_option maxRecDepth 100000 in
theorem c18 : allTo 1024 18432 = true := by decide +kernel
set_option maxRecDepth 100000 in
theorem c19 : allTo 1024 19456 = true := by decide +kernel
set_option maxRecDepth 100000 in
theorem c20 : allTo 1024 20480 = true := by decide +kernel
set_option maxRecDepth 100000 in
theorem c21 : allTo 1024 21504 = true := by decide +kernel
set_option maxRecDepth 100000 in
theorem c22 : allTo 1024 22528 = true := by decide +kernel
set_option maxRecDepth 100000 in
theorem c23 : allTo 1024 23552 = true := by decide +kernel
set_option maxRecDepth 100000 in
theorem c24 : allTo 1024 24576 = true := by decide +kernel
set_option maxRecDepth 100000 in
theorem c25 : allTo 1024 25600 = true := by decide +kernel
set_option maxRecDepth 100000 in
theorem c26 : allTo 1024 26624 = true := by decide +kernel
set_option maxRecDepth 100000 in
theorem c27 : allTo 1024 27648 = true := by decide +kernel
set_option maxRecDepth 100000 in
theorem c28 : allTo 1024 28672 = true := by decide +kernel
set_option maxRecDepth 100000 in
theorem c29 : allTo 1024 29696 = true := by decide +kernel
set_option maxRecDepth 100000 in
theorem c30 : allTo 1024 30720 = true := by decide +kernel
set_option maxRecDepth 100000 in
theorem c31 : allTo 1024 31744 = true := by decide +kernel
set_option maxRecDepth 100000 in
theorem c32 : allTo 1024 32768 = true := by decide +kernel
set_option maxRecDepth 100000 in
theorem c33 : allTo 1024 33792 = true := by decide +kernel
set_option maxRecDepth 100000 in
theorem c34 : allTo 1024 34816 = true := by decide +kernel
set_option maxRecDepth 100000 in
theorem c35 : allTo 1024 35840 = true := by decide +kernel
set_option maxRecDepth 100000 in
theorem c36 : allTo 1024 36864 = true := by decide +kernel
set_option maxRecDepth 100000 in
theorem c37 : allTo 1024 37888 = true := by decide +kernel
set_option maxRecDepth 100000 in
theorem c38 : allTo 1024 38912 = true := by decide +kernel
set_option maxRecDepth 100000 in
theorem c39 : allTo 1024 39936 = true := by decide +kernel
set_option maxRecDepth 100000 in
theorem c40 : allTo 1024 40960 = true := by decide +kernel
set_option maxRecDepth 100000 in
theorem c41 : allTo 1024 41984 = true := by decide +kernel
set_option maxRecDepth 100000 in
theorem c42 : allTo 1024 43008 = true := by decide +kernel
set_option maxRecDepth 100000 in
theorem c43 : allTo 1024 44032 = true := by decide +kernel
set_option maxRecDepth 100000 in
theorem c44 : allTo 1024 45056 = true := by decide +kernel
set_option maxRecDepth 100000 in
theorem c45 : allTo 1024 46080 = true := by decide +kernel
set_option maxRecDepth 100000 in
theorem c46 : allTo 1024 47104 = true := by decide +kernel
set_option maxRecDepth 100000 in
theorem c47 : allTo 1024 48128 = true := by decide +kernel
set_option maxRecDepth 100000 in
theorem c48 : allTo 1024 49152 = true := by decide +kernel
set_option maxRecDepth 100000 in
theorem c49 : allTo 1024 50176 = true := by decide +kernel
set_option maxRecDepth 100000 in
theorem c50 : allTo 1024 51200 = true := by decide +kernel
set_option maxRecDepth 100000 in
theorem c51 : allTo 1024 52224 = true := by decide +kernel
set_option maxRecDepth 100000 in
theorem c52 : allTo 1024 53248 = true := by decide +kernel
set_option maxRecDepth 100000 in
theorem c53 : allTo 1024 54272 = true := by decide +kernel
set_option maxRecDepth 100000 in
theorem c54 : allTo 1024 55296 = true := by decide +kernel
set_option maxRecDepth 100000 in
theorem c55 : allTo 1024 56320 = true := by decide +kernel
set_option maxRecDepth 100000 in
theorem c56 : allTo 1024 57344 = true := by decide +kernel
set_option maxRecDepth 100000 in
theorem c57 : allTo 1024 58368 = true := by decide +kernel
set_option maxRecDepth 100000 in
theorem c58 : allTo 1024 59392 = true := by decide +kernel
set_option maxRecDepth 100000 in
theorem c59 : allTo 1024 60416 = true := by decide +kernel
set_option maxRecDepth 100000 in
theorem c60 : allTo 1024 61440 = true := by decide +kernel
set_option maxRecDepth 100000 in
theorem c61 : allTo 1024 62464 = true := by decide +kernel
set_option maxRecDepth 100000 in
theorem c62 : allTo 1024 63488 = true := by decide +kernel
set_option maxRecDepth 100000 in
theorem c63 : allTo 1024 64512 = true := by decide +kernel
theorem okAt_all (r : Nat) (h : r < 65536) : okAt r = true := by
  by_cases h32 : r < 32768
  · by_cases h16 : r < 16384
    · by_cases h8 : r < 8192
      · by_cases h4 : r < 4096
        · by_cases h2 : r < 2048
          · by_cases h1 : r < 1024
            · exact allTo_at _ _ r c0 (by omega) (by omega)
            · exact allTo_at _ _ r c1 (by omega) (by omega)
          · by_cases h3 : r < 3072
            · exact allTo_at _ _ r c2 (by omega) (by omega)
            · exact allTo_at _ _ r c3 (by omega) (by omega)
        · by_cases h6 : r < 6144
          · by_cases h5 : r < 5120
            · exact allTo_at _ _ r c4 (by omega) (by omega)
            · exact allTo_at _ _ r c5 (by omega) (by omega)
          · by_cases h7 : r < 7168
            · exact allTo_at _ _ r c6 (by omega) (by omega)
            · exact allTo_at _ _ r c7 (by omega) (by omega)
      · by_cases h12 : r < 12288
        · by_cases h10 : r < 10240
          · by_cases h9 : r < 9216
            · exact allTo_at _ _ r c8 (by omega) (by omega)
            · exact allTo_at _ _ r c9 (by omega) (by omega)
          · by_cases h11 : r < 11264
            · exact allTo_at _ _ r c10 (by omega) (by omega)
            · exact allTo_at _ _ r c11 (by omega) (by omega)
        · by_cases h14 : r < 14336
          · by_cases h13 : r < 13312
            · exact allTo_at _ _ r c12 (by omega) (by omega)
            · exact allTo_at _ _ r c13 (by omega) (by omega)
          · by_cases h15 : r < 15360
            · exact allTo_at _ _ r c14 (by omega) (by omega)
            · exact allTo_at _ _ r c15 (by omega) (by omega)
    · by_cases h24 : r < 24576
      · by_cases h20 : r < 20480
        · by_cases h18 : r < 18432
          · by_cases h17 : r < 17408
            · exact allTo_at _ _ r c16 (by omega) (by omega)
            · exact allTo_at _ _ r c17 (by omega) (by omega)
          · by_cases h19 : r < 19456
            · exact allTo_at _ _ r c18 (by omega) (by omega)
            · exact allTo_at _ _ r c19 (by omega) (by omega)
        · by_cases h22 : r < 22528
          · by_cases h21 : r < 21504
            · exact allTo_at _ _ r c20 (by omega) (by omega)
            · exact allTo_at _ _ r c21 (by omega) (by omega)
          · by_cases h23 : r < 23552
            · exact allTo_at _ _ r c22 (by omega) (by omega)
            · exact allTo_at _ _ r c23 (by omega) (by omega)
      · by_cases h28 : r < 28672
        · by_cases h26 : r < 26624
          · by_cases h25 : r < 25600
            · exact allTo_at _ _ r c24 (by omega) (by omega)
            · exact allTo_at _ _ r c25 (by omega) (by omega)
          · by_cases h27 : r < 27648
            · exact allTo_at _ _ r c26 (by omega) (by omega)
            · exact allTo_at _ _ r c27 (by omega) (by omega)
        · by_cases h30 : r < 30720
          · by_cases h29 : r < 29696
            · exact allTo_at _ _ r c28 (by omega) (by omega)
            · exact allTo_at _ _ r c29 (by omega) (by omega)
          · by_cases h31 : r < 31744
            · exact allTo_at _ _ r c30 (by omega) (by omega)
            · exact allTo_at _ _ r c31 (by omega) (by omega)
  · by_cases h48 : r < 49152
    · by_cases h40 : r < 40960
      · by_cases h36 : r < 36864
        · by_cases h34 : r < 34816
          · by_cases h33 : r < 33792
            · exact allTo_at _ _ r c32 (by omega) (by omega)
            · exact allTo_at _ _ r c33 (by omega) (by omega)
          · by_cases h35 : r < 35840
            · exact allTo_at _ _ r c34 (by omega) (by omega)
            · exact allTo_at _ _ r c35 (by omega) (by omega)
        · by_cases h38 : r < 38912
          · by_cases h37 : r < 37888
            · exact allTo_at _ _ r c36 (by omega) (by omega)
            · exact allTo_at _ _ r c37 (by omega) (by omega)
          · by_cases h39 : r < 39936
            · exact allTo_at _ _ r c38 (by omega) (by omega)
            · exact allTo_at _ _ r c39 (by omega) (by omega)
      · by_cases h44 : r < 45056
        · by_cases h42 : r < 43008
          · by_cases h41 : r < 41984
            · exact allTo_at _ _ r c40 (by omega) (by omega)
            · exact allTo_at _ _ r c41 (by omega) (by omega)
          · by_cases h43 : r < 44032
            · exact allTo_at _ _ r c42 (by omega) (by omega)
            · exact allTo_at _ _ r c43 (by omega) (by omega)
        · by_cases h46 : r < 47104
          · by_cases h45 : r < 46080
            · exact allTo_at _ _ r c44 (by omega) (by omega)
            · exact allTo_at _ _ r c45 (by omega) (by omega)
          · by_cases h47 : r < 48128
            · exact allTo_at _ _ r c46 (by omega) (by omega)
            · exact allTo_at _ _ r c47 (by omega) (by omega)
    · by_cases h56 : r < 57344
      · by_cases h52 : r < 53248
        · by_cases h50 : r < 51200
          · by_cases h49 : r < 50176
            · exact allTo_at _ _ r c48 (by omega) (by omega)
            · exact allTo_at _ _ r c49 (by omega) (by omega)
          · by_cases h51 : r < 52224
            · exact allTo_at _ _ r c50 (by omega) (by omega)
            · exact allTo_at _ _ r c51 (by omega) (by omega)
        · by_cases h54 : r < 55296
          · by_cases h53 : r < 54272
            · exact allTo_at _ _ r c52 (by omega) (by omega)
            · exact allTo_at _ _ r c53 (by omega) (by omega)
          · by_cases h55 : r < 56320
            · exact allTo_at _ _ r c54 (by omega) (by omega)
            · exact allTo_at _ _ r c55 (by omega) (by omega)
      · by_cases h60 : r < 61440
        · by_cases h58 : r < 59392
          · by_cases h57 : r < 58368
            · exact allTo_at _ _ r c56 (by omega) (by omega)
            · exact allTo_at _ _ r c57 (by omega) (by omega)
          · by_cases h59 : r < 60416
            · exact allTo_at _ _ r c58 (by omega) (by omega)
            · exact allTo_at _ _ r c59 (by omega) (by omega)
        · by_cases h62 : r < 63488
          · by_cases h61 : r < 62464
            · exact allTo_at _ _ r c60 (by omega) (by omega)
            · exact allTo_at _ _ r c61 (by omega) (by omega)
          · by_cases h63 : r < 64512
            · exact allTo_at _ _ r c62 (by omega) (by omega)
            · exact allTo_at _ _ r c63 (by omega) (by omega)
theorem frac_len : ∀ (fuel s d : Nat) (ds : List Nat), frac fuel s d = some ds → ds ≠ [] ∧ ds.length ≤ fuel
  | 0, _, _, _, h => by simp [frac] at h
  | fuel + 1, s, d, ds, h => by
    unfold frac at h
    have step : ∀ (x y z : Nat), (frac fuel y z).map (x :: ·) = some ds → ds ≠ [] ∧ ds.length ≤ fuel + 1 := by
      intro x y z h
      obtain ⟨l, hl, rfl⟩ := Option.map_eq_some_iff.1 h
      have := (frac_len fuel y z l hl).2
      exact ⟨by simp, by simp; omega⟩
    split at h
    · split at h
      · cases h
      · split at h
        · injection h with h; subst h; exact ⟨by simp, by simp⟩
        · exact step _ _ _ h
    · split at h
      · injection h with h; subst h; exact ⟨by simp, by simp⟩
      · exact step _ _ _ h
/-- what is written of a part of a point is read as it -/
theorem frac_ok (r : Nat) (h : r < 65536) : ∃ ds, frac 5 (10 * r + 5) 10 = some ds ∧ (acc ds + 1) / 2 = r ∧ (∀ d ∈ ds, d ≤ 9) ∧ ds ≠ [] ∧ ds.length ≤ 5 := by
  have h0 := okAt_all r h
  unfold okAt at h0
  split at h0
  · cases h0
  · rename_i ds hd
    simp only [Bool.and_eq_true, List.all_eq_true] at h0
    have hl := frac_len _ _ _ _ hd
    exact ⟨ds, hd, Nat.eq_of_beq_eq_true h0.1, fun d hm => Nat.le_of_ble_eq_true (h0.2 d hm), hl.1, hl.2⟩
end Go.Proofs.YtmehldekebphfaaGreatDoor.Fr
