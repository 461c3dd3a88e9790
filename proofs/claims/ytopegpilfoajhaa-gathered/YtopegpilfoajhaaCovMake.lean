/-
  P7: the walks of Make, coverErrno, Cover.
-/
import Derived.Test.YtopegpilfoajhaaCovFind
namespace Go.Proofs.Ytopegpilfoajhaa
open Go.RowKit Go.PlainAid

theorem own_o {w w' : World} {B e b : Nat} {v : Value} {n : Nat} {xs : List Value} (h : w.ownsRow B e 1 v n xs) (hb : w.heap.size ≤ b) (ho : ∀ k, k ≠ b → w'.heap[k]? = w.heap[k]?) : w'.ownsRow B e 1 v n xs := by
  have hl := h.lt
  refine ⟨h.1, ?_⟩
  rcases h.2 with h2 | ⟨g, cap, cur, rfl, hg, hgb, r⟩
  · exact .inl h2
  · have := (hl g rfl).2
    exact .inr ⟨g, cap, cur, rfl, hg, by rw [ho g (by omega)]; exact hgb, r⟩

/-! ### The content, step by step -/
theorem covF_none {s : ByteArray} {k d N B f : Nat} {tk : Nat → Bool} {c : ByteArray} (h : c.size < B) (h0 : (bsTo s d N tk (k - d + 1) (s.size - k + 1)).2 = 0) : covF s k d N B (f + 1) tk c = c := by
  rw [covF, if_pos h, if_pos h0]
theorem covF_some {s : ByteArray} {k d N B f : Nat} {tk : Nat → Bool} {c : ByteArray} (h : c.size < B) (h0 : ¬ (bsTo s d N tk (k - d + 1) (s.size - k + 1)).2 = 0) :
    covF s k d N B (f + 1) tk c = covF s k d N B f (tkTo s d tk (bsTo s d N tk (k - d + 1) (s.size - k + 1)).1 (k - d + 1)) (s.extract (bsTo s d N tk (k - d + 1) (s.size - k + 1)).1 ((bsTo s d N tk (k - d + 1) (s.size - k + 1)).1 + k) ++ c) := by
  rw [covF, if_pos h, if_neg h0]
theorem covF_full {s : ByteArray} {k d N B f : Nat} {tk : Nat → Bool} {c : ByteArray} (h : B ≤ c.size) : covF s k d N B (f + 1) tk c = lastN c B := by
  rw [covF, if_neg (by omega)]

set_option maxRecDepth 100000 in
set_option maxHeartbeats 1600000 in
theorem make_any (s : ByteArray) (k d B : Nat) (w : World) (hs : s.size ≤ 800) (hd : 1 ≤ d) (hk : d ≤ k) (hks : k ≤ s.size) (hkB : k ≤ B) (hB : B ≤ 500) :
    Calls Try.prog 50 #[.string s, .int .i64 k, .int .i64 d, .int .i64 B] w fun e w' => e = .returned (.string (cov s k d B)) ∧ Below w.heap.size w w' := by
  have c1 : decide ((d : Int) < 1) = false := by simp; omega
  have c2 : decide ((k : Int) < (d : Int)) = false := by simp; omega
  have c3 : decide ((s.size : Int) < (k : Int)) = false := by simp; omega
  have HF := hid (find_any s d w hs hd (by omega))
  obtain ⟨N, hN⟩ : ∃ N, N = s.size - d + 1 := ⟨_, rfl⟩
  obtain ⟨x, hx⟩ : ∃ x, x = k - d + 1 := ⟨_, rfl⟩
  have HC := hid (show cov s k d B = covF s k d N B (B + 1) (fun _ => false) ⟨#[]⟩ from by rw [hN]; rfl)
  rw [← hN] at HF
  have hxk : (k : Int) - (d : Int) + 1 = (x : Int) := by omega
  have HNW := hid (show N - x + 1 = s.size - k + 1 from by omega)
  have HX := hid hx
  have hxN : x ≤ N := by omega
  have hN8 : N ≤ 800 := by omega
  have hN1 : 1 ≤ N := by omega
  have HNx := hid (show N = s.size - k + x from by omega)
  generalize cov s k d B = CV at *
  clear hN hx
  go_enter Try.func50, Try.ntmps50
  go_wp2_with fail
  refine Calls.mono HF.out ?_
  rintro e w1 ⟨b, vp, vf, vt, vk, rfl, F1, b1⟩
  obtain ⟨gp, cp, rfl⟩ := own_frm F1.p hN1
  obtain ⟨gf, cf, rfl⟩ := own_frm F1.f hN1
  obtain ⟨gt, ct, rfl⟩ := own_frm F1.t hN1
  obtain ⟨gq, ck, rfl⟩ := own_frm F1.k hN1
  have hq := pRow_new w1
  go_wp2_with (refine wpList_store_rowIs rfl 99 (.tmp 9) (.tmp 29) rfl w1.heap.size rfl 99 4 (pRow nilS nilS nilS nilS) (pRow (.slice (some ⟨gp, 0, none⟩) N cp) (.slice (some ⟨gf, 0, none⟩) N cf) (.slice (some ⟨gt, 0, none⟩) N ct) (.slice (some ⟨gq, 0, none⟩) N ck)) hq rfl sizePcs (fun i _ => pRow_one i) ?_; intro w2 q2 b2 o2 s2)
  have ap : ∀ {a n c a' n' c' : Nat}, apart (.slice (some ⟨a, 0, none⟩) n c) (.slice (some ⟨a', 0, none⟩) n' c') → a ≠ a' := by
    intro a n c a' n' c' h
    rcases h with h | h
    · simp [Value.ownBlock] at h
    · simpa [Value.ownBlock] using h
  have ok : ∀ {e : Nat} {v : Value} {n : Nat} {xs : List Value}, w1.ownsRow (w.heap.size + 2) e 1 v n xs → w2.ownsRow (w.heap.size + 2) e 1 v n xs := by
    intro e v n xs h
    have ho : ∀ k, k ≠ w1.heap.size → w2.heap[k]? = (w1.alloc (.cells #[.slice none 0 0, .slice none 0 0, .slice none 0 0, .slice none 0 0] 99)).heap[k]? := o2
    have hl := h.lt
    refine ⟨h.1, ?_⟩
    rcases h.2 with h2 | ⟨g, cap, cur, rfl, hg, hgb, r⟩
    · exact .inl h2
    · have := (hl g rfl).2
      exact .inr ⟨g, cap, cur, rfl, hg, by rw [ho g (by omega), Below.heap_alloc _ _ _ this]; exact hgb, r⟩
  have P2 : Pcs w2 w1.heap.size (w.heap.size + 2) N s d (fun _ => false) gp cp gf cf gt ct gq ck :=
    ⟨q2, ok F1.p, ok F1.f, ok F1.t, ok F1.k, ap F1.pk, ap F1.fk, ap F1.tk, by have := (F1.k.lt gq rfl).2; omega⟩
  have bel2 : Below w.heap.size w w2 := (b1.alloc b1.size _).trans (b2.mono b1.size)
  have hw1 := b1.size
  obtain ⟨b9, hb9⟩ : ∃ b9, b9 = w1.heap.size := ⟨_, rfl⟩
  rw [← hb9] at P2 ⊢
  clear F1 hq ap ok q2 b2 o2 s2 HF hb9 hw1 b1
  go_loopg [11, 12, 13] (B + 1) (fun gh c _ _ wr => ∃ (tk : Nat → Bool) (cc : ByteArray), c = .string cc ∧ Pcs wr b9 (w.heap.size + 2) N s d tk gp cp gf cf gt ct gq ck ∧ Below w.heap.size w wr ∧ ((cc.size < B ∧ B - cc.size < gh ∧ CV = covF s k d N B gh tk cc) ∨ (cc.size = B ∧ CV = cc)))
  case atStart => exact ⟨fun _ => false, ⟨#[]⟩, rfl, P2, bel2, .inl ⟨by show 0 < B; omega, by show B - 0 < B + 1; omega, HC.out⟩⟩
  case round =>
    obtain ⟨tk, cc, rfl, hP, hbel, hst⟩ := hrel
    rcases hst with ⟨h1, h2, h3⟩ | ⟨h1, h3⟩
    · obtain ⟨f, hf⟩ : ∃ f, gk = f + 1 := ⟨gk - 1, by omega⟩
      subst hf
      have hcall := hid (best_any s d N tk b9 (w.heap.size + 2) gp cp gf cf gt ct gq ck x wr hP hN8 hxN)
      rw [HNW.out] at hcall
      have hat := bsTo_lt s d N tk x (s.size - k + 1) (by omega)
      have hm := bsTo_le s d N tk x (s.size - k + 1)
      have hxN2 : x * N ≤ 800 * 800 := Nat.mul_le_mul (by omega) (by omega)
      have H3 := hid h3
      have HCN := hid (covF_none (s := s) (k := k) (d := d) (N := N) (f := f) (tk := tk) h1)
      have HCS := hid (covF_some (s := s) (k := k) (d := d) (N := N) (f := f) (tk := tk) h1)
      rw [← HX.out] at HCN HCS
      clear h3
      generalize bsTo s d N tk x (s.size - k + 1) = q at *
      obtain ⟨a, m⟩ := q
      simp only at hcall hat hm HCN HCS
      have h1' : (cc.size : Int) < (B : Int) := by omega
      by_cases c0 : m = 0
      · have HE := hid (show CV = cc from by rw [H3.out]; exact HCN.out c0)
        have c0' : ((m : Int) == 0) = true := by simp [c0]
        clear c0
        go_wp2_with (go_at_call 76; refine Calls.mono hcall.out ?_; rintro e w' ⟨rfl, rfl⟩)
        go_ret
        exact ⟨ret_s HE.out.symm, hbel⟩
      · have c0' : ((m : Int) == 0) = false := beq_eq_false_iff_ne.2 (by omega)
        have HE := hid (H3.out.trans (HCS.out c0))
        have htake := hid (take_any s d N tk b9 (w.heap.size + 2) gp cp gf cf gt ct gq ck a x wr hP hN8 (by have := HNx.out; omega))
        have hak : a + k ≤ s.size := by omega
        have hwin : (s.extract a (a + k)).size = k := by rw [ext_size _ _ _ hak]; omega
        obtain ⟨r, hr⟩ : ∃ r : Nat, (B : Int) - (cc.size : Int) = (r : Int) := ⟨B - cc.size, by omega⟩
        have hlast := hid (fun w => lastB_any (s.extract a (a + k)) r w (by omega) (by omega))
        have hrB : r = B - cc.size := by omega
        have hlsz : (lastN (s.extract a (a + k)) r).size ≤ k := by
          unfold lastN; rw [ext_size _ _ _ (Nat.le_refl _)]; omega
        have HNEW := hid (show (if k + cc.size < B then lastN (s.extract a (a + k)) r ++ cc = s.extract a (a + k) ++ cc ∧ (lastN (s.extract a (a + k)) r ++ cc).size = k + cc.size else lastN (s.extract a (a + k)) r ++ cc = lastN (s.extract a (a + k) ++ cc) B ∧ (lastN (s.extract a (a + k)) r ++ cc).size = B) from by
          split
          · have e : lastN (s.extract a (a + k)) r = s.extract a (a + k) := lastN_all (by omega)
            rw [e]
            exact ⟨rfl, by rw [ByteArray.size_append, hwin]⟩
          · have e := lastN_app (s.extract a (a + k)) cc (n := B) (by omega) (by omega)
            rw [← hrB] at e
            refine ⟨e.symm, ?_⟩
            rw [ByteArray.size_append, lastN_size _ (by omega)]; omega)
        have hccB : cc.size ≤ 500 := by omega
        have hrx : (r : Int) ≤ 500 := by omega
        clear hrB H3 HCN HCS hP c0
        generalize hLX : lastN (s.extract a (a + k)) r = LX at *
        clear hLX
        go_wp2_with (first
          | (go_at_call 76; refine Calls.mono hcall.out ?_; rintro e w' ⟨rfl, rfl⟩)
          | (go_at_call 77; refine Calls.mono htake.out ?_; rintro e w3 ⟨rfl, P3, b3⟩)
          | (go_at_call 78; refine Calls.mono (hlast.out _) ?_; rintro e w' ⟨rfl, rfl⟩))
        go_roundg f
        case measure => omega
        case rel =>
          have hn := HNEW.out
          have he := HE.out
          have hbel3 := hbel.trans (b3.mono (by omega))
          by_cases cB : k + cc.size < B
          · rw [if_pos cB] at hn
            exact ⟨tkTo s d tk a x, _, rfl, P3, hbel3, .inl ⟨by rw [hn.2]; exact cB, by rw [hn.2]; omega, by rw [hn.1]; exact he⟩⟩
          · rw [if_neg cB] at hn
            obtain ⟨f2, rfl⟩ : ∃ f2, f = f2 + 1 := ⟨f - 1, by omega⟩
            exact ⟨tkTo s d tk a x, _, rfl, P3, hbel3, .inr ⟨hn.2, by rw [hn.1, he]; exact covF_full (by rw [ByteArray.size_append, hwin]; omega)⟩⟩
    · have HE := hid h3
      have h1' : decide ((cc.size : Int) < (B : Int)) = false := by simp; omega
      clear h3
      go_wp2
      go_ret
      exact ⟨ret_s HE.out.symm, hbel⟩
end Go.Proofs.Ytopegpilfoajhaa
