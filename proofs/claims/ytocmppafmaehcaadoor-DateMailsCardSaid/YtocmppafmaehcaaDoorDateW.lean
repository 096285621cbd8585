/-
  Plain facts: the reader answers as the document's Atom. No conditions.
-/
import Derived.Test.YtocmppafmaehcaaDoorDateV
namespace Go.Proofs.YtocmppafmaehcaaDoor

theorem zone_iff (z : List UInt8) (off : Int) : (∃ z2, skipF z = (z2, true) ∧ zonF z2 = (off, [], true)) ↔ (fracP z).bind zoneA = some off := by
  rw [Option.bind_eq_some_iff]
  constructor
  · rintro ⟨z2, h1, h2⟩; exact ⟨z2, (skip_iff _ _).1 h1, (zon_iff _ _).1 h2⟩
  · rintro ⟨z2, h1, h2⟩; exact ⟨z2, (skip_iff _ _).2 h1, (zon_iff _ _).2 h2⟩
def textA (Y MO D H MI S : List UInt8) (c : UInt8) (z : List UInt8) : List UInt8 := Y ++ 45 :: (MO ++ 45 :: (D ++ c :: (H ++ 58 :: (MI ++ 58 :: (S ++ z)))))
def atomD (l : List UInt8) (v : Int) : Prop :=
  ∃ Y MO D H MI S c z off, (Dg 4 Y ∧ Dg 2 MO ∧ Dg 2 D ∧ Dg 2 H ∧ Dg 2 MI ∧ Dg 2 S) ∧ (c = 84 ∨ c = 116 ∨ c = 32) ∧ l = textA Y MO D H MI S c z ∧ (fracP z).bind zoneA = some off ∧ timeP (valG Y) (valG MO) (valG D) (valG H) (valG MI) (valG S) off = some v
theorem patA_eq (c : UInt8) : patA c = 57 :: 57 :: 57 :: 57 :: (45 :: (57 :: 57 :: (45 :: (57 :: 57 :: (c :: (57 :: 57 :: (58 :: (57 :: 57 :: (58 :: [57, 57])))))))) ) := rfl
theorem like_A {x : List UInt8} {c : UInt8} (hc : c ≠ 57) (h : likeP x (patA c) = true) : ∃ Y MO D H MI S, (Dg 4 Y ∧ Dg 2 MO ∧ Dg 2 D ∧ Dg 2 H ∧ Dg 2 MI ∧ Dg 2 S) ∧ x = textA Y MO D H MI S c [] := by
  rw [patA_eq] at h
  obtain ⟨Y, s1, dY, e1, h1⟩ := like_4_inv h
  obtain ⟨s2, e2, h2⟩ := like_c_inv (by decide) h1
  obtain ⟨MO, s3, dMO, e3, h3⟩ := like_2_inv h2
  obtain ⟨s4, e4, h4⟩ := like_c_inv (by decide) h3
  obtain ⟨D, s5, dD, e5, h5⟩ := like_2_inv h4
  obtain ⟨s6, e6, h6⟩ := like_c_inv hc h5
  obtain ⟨H, s7, dH, e7, h7⟩ := like_2_inv h6
  obtain ⟨s8, e8, h8⟩ := like_c_inv (by decide) h7
  obtain ⟨MI, s9, dMI, e9, h9⟩ := like_2_inv h8
  obtain ⟨s10, e10, h10⟩ := like_c_inv (by decide) h9
  obtain ⟨S, s11, dS, e11, h11⟩ := like_2_inv h10
  have e12 := like_nil h11
  refine ⟨Y, MO, D, H, MI, S, ⟨dY, dMO, dD, dH, dMI, dS⟩, ?_⟩
  rw [e1, e2, e3, e4, e5, e6, e7, e8, e9, e10, e11, e12]
  rfl
theorem textA_app (Y MO D H MI S : List UInt8) (c : UInt8) (z : List UInt8) : textA Y MO D H MI S c z = textA Y MO D H MI S c [] ++ z := by
  unfold textA; simp
theorem atom_pieces {Y MO D H MI S : List UInt8} (h : Dg 4 Y ∧ Dg 2 MO ∧ Dg 2 D ∧ Dg 2 H ∧ Dg 2 MI ∧ Dg 2 S) (c : UInt8) (z : List UInt8) :
    (textA Y MO D H MI S c z).take 4 = Y ∧ ((textA Y MO D H MI S c z).drop 5).take 2 = MO ∧ ((textA Y MO D H MI S c z).drop 8).take 2 = D ∧ ((textA Y MO D H MI S c z).drop 11).take 2 = H ∧ ((textA Y MO D H MI S c z).drop 14).take 2 = MI ∧ ((textA Y MO D H MI S c z).drop 17).take 2 = S ∧
    (textA Y MO D H MI S c z).take 19 = textA Y MO D H MI S c [] ∧ (textA Y MO D H MI S c z).drop 19 = z ∧ (textA Y MO D H MI S c z).length = 19 + z.length := by
  obtain ⟨dY, dMO, dD, dH, dMI, dS⟩ := h
  obtain ⟨y1, y2, y3, y4, rfl, _⟩ := dg4 dY
  obtain ⟨a1, a2, rfl, _⟩ := dg2 dMO
  obtain ⟨b1, b2, rfl, _⟩ := dg2 dD
  obtain ⟨c1, c2, rfl, _⟩ := dg2 dH
  obtain ⟨d1, d2, rfl, _⟩ := dg2 dMI
  obtain ⟨e1, e2, rfl, _⟩ := dg2 dS
  unfold textA
  refine ⟨rfl, rfl, rfl, rfl, rfl, rfl, rfl, rfl, ?_⟩
  simp
  omega
theorem atomP_iff (l : List UInt8) (v : Int) : atomP l = some v ↔ atomD l v := by
  constructor
  · intro h
    unfold atomP at h
    split at h
    · cases h
    · split at h
      · rename_i hl hk
        have hx : ∃ Y MO D H MI S c, (Dg 4 Y ∧ Dg 2 MO ∧ Dg 2 D ∧ Dg 2 H ∧ Dg 2 MI ∧ Dg 2 S) ∧ (c = 84 ∨ c = 116 ∨ c = 32) ∧ l.take 19 = textA Y MO D H MI S c [] := by
          rcases hk with hk | hk | hk
          · obtain ⟨Y, MO, D, H, MI, S, hd, e⟩ := like_A (by decide) hk
            exact ⟨Y, MO, D, H, MI, S, 84, hd, .inl rfl, e⟩
          · obtain ⟨Y, MO, D, H, MI, S, hd, e⟩ := like_A (by decide) hk
            exact ⟨Y, MO, D, H, MI, S, 116, hd, .inr (.inl rfl), e⟩
          · obtain ⟨Y, MO, D, H, MI, S, hd, e⟩ := like_A (by decide) hk
            exact ⟨Y, MO, D, H, MI, S, 32, hd, .inr (.inr rfl), e⟩
        obtain ⟨Y, MO, D, H, MI, S, c, hd, hc, e⟩ := hx
        have el : l = textA Y MO D H MI S c (l.drop 19) := by
          rw [textA_app, ← e, List.take_append_drop]
        obtain ⟨p1, p2, p3, p4, p5, p6, _, p8, _⟩ := atom_pieces hd c (l.drop 19)
        rw [← el] at p1 p2 p3 p4 p5 p6 p8
        rw [p1, p2, p3, p4, p5, p6, hd.1.digP, hd.2.1.digP, hd.2.2.1.digP, hd.2.2.2.1.digP, hd.2.2.2.2.1.digP, hd.2.2.2.2.2.digP] at h
        rw [Option.bind_eq_some_iff] at h
        obtain ⟨z2, hz1, h⟩ := h
        rw [Option.bind_eq_some_iff] at h
        obtain ⟨off, hz2, h⟩ := h
        exact ⟨Y, MO, D, H, MI, S, c, l.drop 19, off, hd, hc, el, by rw [hz1]; exact hz2, h⟩
      · cases h
  · rintro ⟨Y, MO, D, H, MI, S, c, z, off, hd, hc, rfl, hz, ht⟩
    obtain ⟨p1, p2, p3, p4, p5, p6, p7, p8, p9⟩ := atom_pieces hd c z
    have hz0 : 1 ≤ z.length := by
      cases z with
      | nil =>
        have h0 : (fracP []).bind zoneA = none := by decide
        rw [h0] at hz
        cases hz
      | cons a s => simp
    unfold atomP
    rw [p9, if_neg (by omega), p7, if_pos, p8, p1, p2, p3, p4, p5, p6, hd.1.digP, hd.2.1.digP, hd.2.2.1.digP, hd.2.2.2.1.digP, hd.2.2.2.2.1.digP, hd.2.2.2.2.2.digP]
    · rw [Option.bind_eq_some_iff] at hz
      obtain ⟨z2, h1, h2⟩ := hz
      rw [h1]
      show (zoneA z2).bind _ = _
      rw [h2]
      exact ht
    · have hl : ∀ c : UInt8, c ≠ 57 → likeP (textA Y MO D H MI S c []) (patA c) = true := by
        intro c hc
        rw [patA_eq]
        unfold textA
        rw [like_4 hd.1, like_c 45 (by decide), like_2 hd.2.1, like_c 45 (by decide), like_2 hd.2.2.1, like_c c hc, like_2 hd.2.2.2.1, like_c 58 (by decide), like_2 hd.2.2.2.2.1, like_c 58 (by decide), like_2 hd.2.2.2.2.2]
        rfl
      rcases hc with rfl | rfl | rfl
      · exact .inl (hl 84 (by decide))
      · exact .inr (.inl (hl 116 (by decide)))
      · exact .inr (.inr (hl 32 (by decide)))
theorem one_sep (c : UInt8) (hc : c = 84 ∨ c = 116 ∨ c = 32) (r : List UInt8) : ∃ i, oneF [[84], [116], [32]] (c :: r) = (i, r, true) := by
  rcases hc with rfl | rfl | rfl
  · exact ⟨0, by simp [oneF, tkI, tkL, tkB, takeW, List.isPrefixOf]⟩
  · exact ⟨1, by simp [oneF, tkI, tkL, tkB, takeW, List.isPrefixOf]⟩
  · exact ⟨2, by simp [oneF, tkI, tkL, tkB, takeW, List.isPrefixOf]⟩
theorem timeP_some {y mo d h mi s off v : Int} (e : timeP y mo d h mi s off = some v) : (1 ≤ y ∧ y ≤ 9999 ∧ 1 ≤ mo ∧ mo ≤ 12 ∧ 1 ≤ d ∧ d ≤ lenM y mo ∧ h ≤ 23 ∧ mi ≤ 59 ∧ s ≤ 60) ∧ v = 86400 * (dnum y mo d - 719162) + 3600 * h + 60 * mi + min s 59 - off := by
  unfold timeP at e
  split at e
  · rename_i h1; exact ⟨h1, (Option.some.inj e).symm⟩
  · cases e
theorem ansF_some {m : Mom} {l : List UInt8} {o : Bool} {v : Int} (e : ansF (m, l, o) = some v) : (o = true ∧ l = [] ∧ 1 ≤ m.y ∧ m.d ≤ lenM m.y m.mo) ∧ v = 86400 * (dnum m.y m.mo m.d - 719162) + (m.h * 3600 + m.mi * 60 + min m.s 59) - m.a := by
  unfold ansF at e
  split at e
  · rename_i h1; exact ⟨h1, (Option.some.inj e).symm⟩
  · cases e
theorem atomF_iff (l0 : List UInt8) (v : Int) : ansF (atomF l0) = some v ↔ atomD l0 v := by
  constructor
  · intro hans
    obtain ⟨⟨⟨y, z1⟩, l1, o1⟩, f1⟩ : ∃ f, digF 4 4 l0 = f := ⟨_, rfl⟩
    obtain ⟨⟨z2, l2, o2⟩, f2⟩ : ∃ f, oneF [[45]] l1 = f := ⟨_, rfl⟩
    obtain ⟨⟨mo, l3, o3⟩, f3⟩ : ∃ f, twoF 1 12 l2 = f := ⟨_, rfl⟩
    obtain ⟨⟨z4, l4, o4⟩, f4⟩ : ∃ f, oneF [[45]] l3 = f := ⟨_, rfl⟩
    obtain ⟨⟨d, l5, o5⟩, f5⟩ : ∃ f, twoF 1 31 l4 = f := ⟨_, rfl⟩
    obtain ⟨⟨z6, l6, o6⟩, f6⟩ : ∃ f, oneF [[84], [116], [32]] l5 = f := ⟨_, rfl⟩
    obtain ⟨⟨hh, l7, o7⟩, f7⟩ : ∃ f, twoF 0 23 l6 = f := ⟨_, rfl⟩
    obtain ⟨⟨z8, l8, o8⟩, f8⟩ : ∃ f, oneF [[58]] l7 = f := ⟨_, rfl⟩
    obtain ⟨⟨mi, l9, o9⟩, f9⟩ : ∃ f, twoF 0 59 l8 = f := ⟨_, rfl⟩
    obtain ⟨⟨z10, l10, o10⟩, f10⟩ : ∃ f, oneF [[58]] l9 = f := ⟨_, rfl⟩
    obtain ⟨⟨sc, l11, o11⟩, f11⟩ : ∃ f, twoF 0 60 l10 = f := ⟨_, rfl⟩
    obtain ⟨⟨l12, o12⟩, f12⟩ : ∃ f, skipF l11 = f := ⟨_, rfl⟩
    obtain ⟨⟨ah, l13, o13⟩, f13⟩ : ∃ f, zonF l12 = f := ⟨_, rfl⟩
    have HF : atomF l0 = (⟨y, mo, d, hh, mi, sc, ah⟩, l13, o1 && (o2 && (o3 && (o4 && (o5 && (o6 && (o7 && (o8 && (o9 && (o10 && (o11 && (o12 && o13)))))))))))) := by
      unfold atomF
      simp only [f1, f2, f3, f4, f5, f6, f7, f8, f9, f10, f11, f12, f13]
    rw [HF] at hans
    obtain ⟨⟨hok, hl, hy, hd⟩, hv⟩ := ansF_some hans
    simp only [Bool.and_eq_true] at hok
    obtain ⟨rfl, rfl, rfl, rfl, rfl, rfl, rfl, rfl, rfl, rfl, rfl, rfl, rfl⟩ := hok
    subst hl
    obtain ⟨k, Y, dY, k1, k2, e1, v1, _⟩ := digF_inv f1
    obtain rfl : k = 4 := by omega
    have e2 := one_inv f2
    obtain ⟨MO, dMO, e3, v3, b3, c3⟩ := twoF_inv f3
    have e4 := one_inv f4
    obtain ⟨D, dD, e5, v5, b5, c5⟩ := twoF_inv f5
    obtain ⟨k6, _, hk6, e6⟩ := oneF_inv f6
    obtain ⟨H, dH, e7, v7, b7, c7⟩ := twoF_inv f7
    have e8 := one_inv f8
    obtain ⟨MI, dMI, e9, v9, b9, c9⟩ := twoF_inv f9
    have e10 := one_inv f10
    obtain ⟨S, dS, e11, v11, b11, c11⟩ := twoF_inv f11
    have hsep : ∃ c, (c = 84 ∨ c = 116 ∨ c = 32) ∧ l5 = c :: l6 := by
      match k6, hk6 with
      | 0, _ => exact ⟨84, .inl rfl, e6⟩
      | 1, _ => exact ⟨116, .inr (.inl rfl), e6⟩
      | 2, _ => exact ⟨32, .inr (.inr rfl), e6⟩
    obtain ⟨c, hc, e6'⟩ := hsep
    have hyb := dg4_bd dY
    refine ⟨Y, MO, D, H, MI, S, c, l11, ah, ⟨dY, dMO, dD, dH, dMI, dS⟩, hc, ?_, (zone_iff _ _).1 ⟨l12, f12, f13⟩, ?_⟩
    · unfold textA
      rw [e1, e2, e3, e4, e5, e6', e7, e8, e9, e10, e11]
    · change 1 ≤ y at hy
      change d ≤ lenM y mo at hd
      change v = 86400 * (dnum y mo d - 719162) + (hh * 3600 + mi * 60 + min sc 59) - ah at hv
      unfold timeP
      rw [← v1, ← v3, ← v5, ← v7, ← v9, ← v11, if_pos (by omega)]
      exact congrArg some (by omega)
  · rintro ⟨Y, MO, D, H, MI, S, c, z, off, ⟨dY, dMO, dD, dH, dMI, dS⟩, hc, rfl, hz, ht⟩
    obtain ⟨⟨t1, t2, t3, t4, t5, t6, t7, t8, t9⟩, hv⟩ := timeP_some ht
    obtain ⟨z2, s1, s2⟩ := (zone_iff z off).2 hz
    have hl := lenM_bd (valG Y) (valG MO)
    have bH := dg2_bd dH
    have bMI := dg2_bd dMI
    have bS := dg2_bd dS
    obtain ⟨i, fsep⟩ := one_sep c hc (H ++ 58 :: (MI ++ 58 :: (S ++ z)))
    have HF : atomF (textA Y MO D H MI S c z) = (⟨valG Y, valG MO, valG D, valG H, valG MI, valG S, off⟩, [], true) := by
      unfold atomF textA
      simp only [digF_full _ dY, oneF_c, twoF_full 1 12 _ dMO ⟨t3, t4⟩, twoF_full 1 31 _ dD ⟨t5, by omega⟩, fsep, twoF_full 0 23 _ dH ⟨bH.1, t7⟩, twoF_full 0 59 _ dMI ⟨bMI.1, t8⟩, twoF_full 0 60 _ dS ⟨bS.1, t9⟩, s1, s2, Bool.and_self]
    rw [HF]
    unfold ansF
    rw [if_pos ⟨rfl, rfl, t1, t6⟩]
    show some (86400 * (dnum (valG Y) (valG MO) (valG D) - 719162) + (valG H * 3600 + valG MI * 60 + min (valG S) 59) - off) = some v
    exact congrArg some (by omega)
theorem atom_same (l : List UInt8) : ansF (atomF l) = atomP l := by
  apply Option.ext
  intro v
  rw [atomF_iff, atomP_iff]
end Go.Proofs.YtocmppafmaehcaaDoor
