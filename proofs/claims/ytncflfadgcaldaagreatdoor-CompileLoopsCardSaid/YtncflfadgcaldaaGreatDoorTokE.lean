/-
  The contract of token.Scan: its result is the one that the plain function 'scan' gives, and nothing that was there turns.
-/
import Derived.Test.YtncflfadgcaldaaGreatDoorTokD
namespace Go.Proofs.YtncflfadgcaldaaGreatDoor
open Go.RowKit
open Tok

namespace Tok
/-- The cells of tokens in memory. -/
def cells (ts : List T) : List Value := ts.flatMap fun t => [.int .i64 t.1, .string ⟨t.2.1.toArray⟩, .int .i64 t.2.2]
theorem cells_snoc (ts : List T) (t : T) : cells (ts ++ [t]) = cells ts ++ [.int .i64 t.1, .string ⟨t.2.1.toArray⟩, .int .i64 t.2.2] := by simp [cells]
theorem cells_length (ts : List T) : (cells ts).length = ts.length * 3 := by
  induction ts with
  | nil => rfl
  | cons t r ih => simp only [cells, List.flatMap_cons, List.length_append, List.length_cons, List.length_nil] at ih ⊢; omega
theorem own_below {w w' : World} {B e size n : Nat} {v : Value} {xs : List Value} (h : w.ownsRow B e size v n xs) (hb : Below w.heap.size w w') : w'.ownsRow B e size v n xs := by
  refine ⟨h.1, ?_⟩
  rcases h.2 with hn | ⟨g, cap, cur, rfl, hg, hgg, rest⟩
  · exact .inl hn
  · exact .inr ⟨g, cap, cur, rfl, hg, by rw [hb.block g (Array.getElem?_eq_some_iff.1 hgg).1]; exact hgg, rest⟩
theorem own_block_ge {w : World} {B e size n : Nat} {v : Value} {xs : List Value} (h : w.ownsRow B e size v n xs) : ∀ k, v.ownBlock = some k → B ≤ k := by
  intro k hk
  rcases h.2 with ⟨rfl, _⟩ | ⟨g, cap, cur, rfl, hg, _⟩
  · simp [Value.ownBlock] at hk
  · simp [Value.ownBlock] at hk
    omega
theorem cell_three_new (w : World) (a b c : Value) (t : TypeId) : ∀ j u, [a, b, c][j]? = some u → (w.alloc (.cells #[a, b, c] t)).cell? ((⟨w.heap.size, 0, none⟩ : Addr).add j) = some u := by
  intro j u hj
  match j, hj with
  | 0, hj => simp at hj; subst hj; simp [Addr.add]
  | 1, hj => simp at hj; subst hj; simp [Addr.add]
  | 2, hj => simp at hj; subst hj; simp [Addr.add]
  | j + 3, hj => simp at hj
theorem Tryz.infoTok : (Tryz.prog.info? 68).map (fun i => (i.zero, i.size, i.bytes)) = some (some (.agg #[.int .i64 0, .string ⟨#[]⟩, .int .i64 0]), 3, 32) := by kernel_rfl
def ScanPost (l : Bs) (w : World) (e : Ending) (w' : World) : Prop :=
  ∃ v, e = .returned (.tuple #[v, .int .i64 (scan l).2.1, .int .i64 (scan l).2.2]) ∧
    w'.ownsRow w.heap.size 68 3 v (scan l).1.length (cells (scan l).1) ∧ Below w.heap.size w w'
/-- What holds at the head of Scan's loop. -/
def Inv (S : ByteArray) (w : World) (sv tv lv : Value) (wr : World) : Prop :=
  ∃ (r : ByteArray) (acc : List T) (line : Nat), sv = .string r ∧ lv = .int .i64 line ∧ line + r.size ≤ S.size + 1 ∧ acc.length + r.size ≤ S.size ∧
    wr.ownsRow w.heap.size 68 3 tv acc.length (cells acc) ∧ Below w.heap.size w wr ∧ run r.data.toList line acc = scan S.data.toList
def strLen : Value → Nat
  | .string r => r.size
  | _ => 0
end Tok

set_option maxHeartbeats 1000000 in
theorem scan_big (s : ByteArray) (w : World) (h : 4096 < s.size) (hs : s.size ≤ maxLen) : Calls Tryz.prog 11 #[.string s] w (ScanPost s.data.toList w) := by
  unfold maxLen at hs
  have hS := Lib.hid (show scan s.data.toList = ([], 2, 0) by unfold scan; rw [if_pos (by rw [size_list]; exact h)])
  go_enter Tryz.func11, Tryz.ntmps11
  go_wp2_with fail
  go_ret3
  refine ⟨.slice none 0 0, ?_, ?_, Below.refl _ _⟩
  · rw [hS.out]; rfl
  · rw [hS.out]
    exact ⟨rfl, .inl ⟨rfl, rfl⟩⟩

set_option maxHeartbeats 400000 in
theorem clone_any (s : ByteArray) (w : World) (hlim : s.size ≤ 281474976710656) : Calls Tryz.prog 32 #[.string s] w fun e w' => e = .returned (.string s) ∧ Below w.heap.size w w' := by
  have c := Lib.hid (Tryz.stringslite_Clone s w hlim)
  go_enter Tryz.func32, Tryz.ntmps32
  go_wp2_with (go_at_call 64; refine c.out.mono ?_; rintro e w1 ⟨rfl, hb⟩)
  go_ret
  exact ⟨rfl, hb⟩

set_option maxHeartbeats 1000000 in
theorem scan_small (s : ByteArray) (w : World) (h : s.size ≤ 4096) (hv : Vars w) : Calls Tryz.prog 11 #[.string s] w (ScanPost s.data.toList w) := by
  have HV := Lib.hid hv
  clear hv
  go_enter Tryz.func11, Tryz.ntmps11
  go_wp2_with fail
  go_loopw [0, 5, 6] (fun sv tv lv wr => Inv s w sv tv lv wr) (fun sv _ _ _ => strLen sv)
  case atStart => exact ⟨s, [], 1, rfl, rfl, by omega, by simp, ⟨rfl, .inl ⟨rfl, rfl⟩⟩, Below.refl _ _, (scan_run _ (by rw [size_list]; exact h)).symm⟩
  case round =>
    obtain ⟨r, acc, line, rfl, rfl, hline, hacc, hown, hbel, hrun⟩ := hrel
    have HR := Lib.hid hrun
    clear hrun
    by_cases h0 : r.size = 0
    · have hfin := Lib.hid (show scan s.data.toList = (acc, 0, 0) by
        rw [← HR.out, show r.data.toList = [] from List.eq_nil_of_length_eq_zero (by rw [size_list]; exact h0)]
        exact run_nil _ _)
      go_wp2_with fail
      go_ret3
      refine ⟨u5, ?_, ?_, hbel⟩
      · rw [hfin.out]; rfl
      · rw [hfin.out]; exact hown
    · have hr0 : 0 < r.size := by omega
      have hne : r.data.toList ≠ [] := fun e => by
        have := size_list r
        rw [e] at this
        simp only [List.length_nil] at this
        omega
      have hle := gapLen_le r.data.toList
      rw [size_list] at hle
      by_cases hg : 0 < gapLen r.data.toList
      · have hstep := run_gap r.data.toList line acc hne hg
        have hlf := lf_le (r.data.toList.take (gapLen r.data.toList))
        rw [List.length_take, size_list] at hlf
        have hcnt : Lib.countByte (r.extract 0 (gapLen r.data.toList)).data.toList 10 = lf (r.data.toList.take (gapLen r.data.toList)) := by rw [take_data]; rfl
        have hds := drop_size r (gapLen r.data.toList)
        have hdd := drop_data r (gapLen r.data.toList)
        have cG0 := fun w => gapLength_any r w hr0
        have cC0 := fun w => Tryz.strings_Count_one (r.extract 0 (gapLen r.data.toList)) 10 w
        rw [← hdd] at hstep
        obtain ⟨g, hgd⟩ : ∃ g, g = gapLen r.data.toList := ⟨_, rfl⟩
        obtain ⟨c, hcd⟩ : ∃ c, c = lf (r.data.toList.take (gapLen r.data.toList)) := ⟨_, rfl⟩
        rw [hcnt] at cC0
        rw [← hcd] at hlf hstep cC0
        rw [← hgd] at hg hle hlf hds cG0 cC0 hstep
        have cG := Lib.hid cG0
        have cC := Lib.hid cC0
        have HS := Lib.hid (hstep.symm.trans HR.out)
        have HD := Lib.hid hds
        clear hstep hcnt hds hdd cG0 cC0 hgd hcd hne h0 HR
        go_wp2_with (first | (go_at_call 29; refine (cG.out _).mono ?_; rintro e w1 ⟨rfl, rfl⟩) | (go_at_call 30; refine (cC.out _).mono ?_; rintro e w2 ⟨rfl, rfl⟩))
        go_roundw
        case rel => exact ⟨r.extract g r.size, acc, line + c, rfl, by go_num, by rw [HD.out]; omega, by rw [HD.out]; omega, hown, hbel, HS.out⟩
        case measure => simp only [strLen]; rw [HD.out]; omega
      · have hg0 : gapLen r.data.toList = 0 := by omega
        have cG0 := fun w => gapLength_any r w hr0
        rw [hg0] at cG0
        have cG := Lib.hid cG0
        have hfl := first_le r.data.toList
        rw [size_list] at hfl
        have hv := HV.out.below hbel
        obtain ⟨k, n, er, hf⟩ : ∃ k n er, first r.data.toList = (k, n, er) := ⟨_, _, _, rfl⟩
        have cF0 : ∀ w, Vars w → Calls Tryz.prog 31 #[.string r] w fun e w' => e = .returned (.tuple #[.int .i64 k, .int .i64 n, .int .i64 er]) ∧ Below w.heap.size w w' := by
          intro w hv
          refine (first_any r w hv hr0 (by omega)).mono ?_
          rintro e w' ⟨he, hb⟩
          rw [hf] at he
          exact ⟨he, hb⟩
        have cF := Lib.hid (cF0 wr hv)
        rw [hf] at hfl
        by_cases her : er = 0
        · subst her
          have hpos := first_pos r.data.toList (by rw [hf])
          rw [hf] at hpos
          have hstep := run_tok r.data.toList line acc hne hg0 (by rw [hf])
          rw [hf] at hstep
          have hn : n ≤ r.size := hfl
          have hn0 : 0 < n := hpos
          have HS0 : run (r.data.toList.drop n) line (acc ++ [(k, r.data.toList.take n, line)]) = scan s.data.toList := hstep.symm.trans HR.out
          rw [← drop_data] at HS0
          have HS := Lib.hid HS0
          have HD := Lib.hid (drop_size r n)
          have hts : (⟨(r.data.toList.take n).toArray⟩ : ByteArray) = r.extract 0 n := by rw [← take_data, Lib.mk_data]
          have cC := Lib.hid (fun w => clone_any (r.extract 0 n) w (by rw [take_size r n hn]; omega))
          have HC := Lib.hid (show cells (acc ++ [(k, r.data.toList.take n, line)]) = cells acc ++ [.int .i64 k, .string (r.extract 0 n), .int .i64 line] by rw [cells_snoc, hts])
          obtain ⟨i0, hi, hz0, hz1, hz2⟩ := info_parts Tryz.infoTok
          clear hstep hf hfl hpos hne h0 HR hg hg0 cG0 cF0 HS0 hts hle hv
          go_wp2_with (first
            | (go_at_call 29; refine (cG.out _).mono ?_; rintro e w1 ⟨rfl, rfl⟩)
            | (go_at_call 31; refine cF.out.mono ?_; rintro e w2 ⟨rfl, hb2⟩)
            | (go_at_call 32; refine (cC.out _).mono ?_; rintro e w3 ⟨rfl, hb3⟩)
            | (at_builtin; refine wpList_append_own _ rfl (.tmp 45) (.tmp 50) 60 rfl w.heap.size 68 i0 (.agg #[.int .i64 0, .string ⟨#[]⟩, .int .i64 0]) 3 32 Tryz.underlying60 hi hz0 hz1 hz2 rfl (by decide) _ _ _ rfl ((own_below (own_below hown hb2) hb3).alloc _) ⟨w3.heap.size, 0, none⟩ 1 1 [.int .i64 k, .string (r.extract 0 n), .int .i64 line] rfl rfl (cell_three_new _ _ _ _ _) (by intro u hu; simp at hu; rcases hu with rfl | rfl | rfl <;> rfl) (by unfold maxLen; omega) (by omega) (by have h1 := hb2.size; have h2 := hb3.size; have h3 := hbel.size; simp; omega) ?_; intro v4 w4 hown4 hgrow4 hnil4))
          go_roundw
          case rel =>
            have hb3' := (hbel.trans (hb2.mono hbel.size)).trans (hb3.mono (Nat.le_trans hbel.size hb2.size))
            refine ⟨r.extract n r.size, acc ++ [(k, r.data.toList.take n, line)], line, rfl, rfl, by rw [HD.out]; omega, by rw [HD.out]; simp; omega, ?_, ?_, HS.out⟩
            · rw [HC.out, List.length_append]
              exact hown4
            · exact (hb3'.alloc hb3'.size _).grown hgrow4 (by have := hb3'.size; simp; omega) (own_block_ge hown)
          case measure => simp only [strLen]; rw [HD.out]; omega
        · have hne2 : (((er : Nat) : Int) != 0) = true := by simpa using her
          have hfin := Lib.hid (show scan s.data.toList = ([], er, line) by
            have := run_err r.data.toList line acc hne hg0 (by rw [hf]; exact her)
            rw [hf] at this
            exact HR.out.symm.trans this)
          clear hf hfl hne h0 HR hg hg0 cG0 cF0 hle hv
          go_wp2_with (first
            | (go_at_call 29; refine (cG.out _).mono ?_; rintro e w1 ⟨rfl, rfl⟩)
            | (go_at_call 31; refine cF.out.mono ?_; rintro e w2 ⟨rfl, hb2⟩))
          go_ret3
          refine ⟨.slice none 0 0, ?_, ?_, hbel.trans (hb2.mono hbel.size)⟩
          · rw [hfin.out]; rfl
          · rw [hfin.out]; exact ⟨rfl, .inl ⟨rfl, rfl⟩⟩
theorem scan_any (s : ByteArray) (w : World) (hv : Vars w) (hs : s.size ≤ maxLen) : Calls Tryz.prog 11 #[.string s] w (ScanPost s.data.toList w) := by
  by_cases h : 4096 < s.size
  · exact scan_big s w h hs
  · exact scan_small s w (by omega) hv
end Go.Proofs.YtncflfadgcaldaaGreatDoor
