/-
  Contracts of number and first of package token.
-/
import Derived.Test.YtncflfadgcaldaaGreatDoorTokC
import Derived.Deep.QuietTactic
import Derived.BigQuiet
import Derived.RegionTactic
import Derived.Deep.RegionWith
namespace Go.Proofs.YtncflfadgcaldaaGreatDoor
open Go.RowKit
open Tok

namespace Tok
/-- The variable strconv.ErrRange lies below, and holds an error. -/
def Vars (w : World) : Prop := 4 < w.heap.size ∧ ∃ te pe, w.cell? ⟨4, 0, none⟩ = some (.iface te pe)
theorem Vars.below {w w' : World} (h : Vars w) (hb : Below w.heap.size w w') : Vars w' := by
  obtain ⟨hs, te, pe, hc⟩ := h
  exact ⟨Nat.lt_of_lt_of_le hs hb.size, te, pe, (hb.cell (p := ⟨4, 0, none⟩) hs).trans hc⟩
theorem empty_list (s : ByteArray) (h : s.size = 0) : s.toList = [] := by
  rw [Lib.toList_data]
  exact List.eq_nil_of_length_eq_zero (by rw [size_list]; exact h)
theorem empty_bool (s : ByteArray) (h : s.size = 0) : s.toList.isEmpty = true := by rw [empty_list s h]; rfl
theorem nonempty_bool (s : ByteArray) (h : 0 < s.size) : s.toList.isEmpty = false := by
  have := size_list s
  rw [Lib.toList_data, List.isEmpty_eq_false_iff]
  intro e
  rw [e] at this
  simp only [List.length_nil] at this
  omega
end Tok

theorem ret_bool {a b : Bool} (h : a = b) : Ending.returned (.bool a) = .returned (.bool b) := by rw [h]

namespace Tok
theorem below_parse {w w1 : World} (h : w1 = w ∨ ∃ t, w1 = Lib.bytesWorld w 5 t) : Below w.heap.size w w1 := by
  rcases h with rfl | ⟨t, rfl⟩
  · exact Below.refl _ _
  · exact Lib.bytesWorld_below _ _ _
def NumPost (d r : Bs) (w : World) (e : Ending) (w' : World) : Prop :=
  e = .returned (.tuple #[.int .i64 (number d r).1, .int .i64 (number d r).2.1, .int .i64 (number d r).2.2]) ∧ Below w.heap.size w w'
theorem wrap32_byte (c : UInt8) : wrap32 (c.toNat : Int) = (c.toNat : Int) := by
  have := c.toNat_lt
  unfold wrap32
  omega
theorem head_at (r : ByteArray) (h : 0 < r.size) : headPart r.data.toList = isPart r[0] := by
  have hd := drop_at r 0 h
  rw [List.drop_zero] at hd
  rw [hd]
  rfl
end Tok

set_option maxHeartbeats 1000000 in
theorem number_any (d r : ByteArray) (w : World) (hv : Vars w) (hd : ∀ c ∈ d.data.toList, isDigit c = true) (h0 : 0 < d.size) (hs : d.size ≤ 65536) :
    Calls Tryz.prog 62 #[.string d, .string r] w (NumPost d.data.toList r.data.toList w) := by
  have hne : d.data.toList ≠ [] := fun e => by
    have := size_list d
    rw [e] at this
    simp only [List.length_nil] at this
    omega
  have hl := size_list d
  by_cases hp : headPart r.data.toList = true
  · have hN := Lib.hid (show number d.data.toList r.data.toList = (0, 0, 3) by unfold number; rw [if_pos hp])
    have hr0 : 0 < r.size := by
      rcases Nat.eq_zero_or_pos r.size with h | h
      · rw [← Lib.toList_data, empty_list r h] at hp
        cases hp
      · exact h
    have he := nonempty_bool r hr0
    have hi : isPartI (wrap32 (r[0].toNat : Int)) = true := by rw [wrap32_byte, isPartI_cast, ← head_at r hr0]; exact hp
    clear hd hne hl hv hs hp
    go_enter Tryz.func62, Tryz.ntmps62
    go_wp2_with (go_at_call 93; refine (isWordPart_any _ _).mono ?_; rintro e w' ⟨rfl, rfl⟩)
    go_ret3
    exact ⟨by rw [hN.out]; rfl, Below.refl _ _⟩
  · have hN := Lib.hid (show number d.data.toList r.data.toList = if dec 0 d.data.toList < lim then (2, d.data.toList.length, 0) else (0, 0, 3) by unfold number; rw [if_neg hp])
    by_cases hok : dec 0 d.data.toList < lim
    · have hP := parseIntB_ok _ hne hd hok
      have hN2 := Lib.hid (show number d.data.toList r.data.toList = (2, d.size, 0) by rw [hN.out, if_pos hok, hl])
      have cP := fun w => Tryz.strconv_ParseInt_10_at64_ok d (by omega) _ hP w
      have CP := Lib.hid cP
      clear cP hP hok hd hne hl hv hN
      by_cases hr0 : 0 < r.size
      · have he := nonempty_bool r hr0
        have hi : isPartI (wrap32 (r[0].toNat : Int)) = false := by rw [wrap32_byte, isPartI_cast, ← head_at r hr0]; simpa using hp
        clear hp
        go_enter Tryz.func62, Tryz.ntmps62
        go_wp2_with (first | (go_at_call 93; refine (isWordPart_any _ _).mono ?_; rintro e w' ⟨rfl, rfl⟩) | (go_at_call 96; refine (CP.out _).mono ?_; rintro e w1 ⟨rfl, hw⟩))
        go_ret3
        exact ⟨by rw [hN2.out]; rfl, below_parse hw⟩
      · have he := empty_bool r (by omega)
        have he2 := empty_list r (by omega)
        clear hp hr0
        go_enter Tryz.func62, Tryz.ntmps62
        go_wp2_with (first | (go_at_call 93; refine (isWordPart_any _ _).mono ?_; rintro e w' ⟨rfl, rfl⟩) | (go_at_call 96; refine (CP.out _).mono ?_; rintro e w1 ⟨rfl, hw⟩))
        go_ret3
        exact ⟨by rw [hN2.out]; rfl, below_parse hw⟩
    · have hP := parseIntB_range _ hne hd hok
      have hN2 := Lib.hid (show number d.data.toList r.data.toList = (0, 0, 3) by rw [hN.out, if_neg hok])
      obtain ⟨_, te, pe, hc⟩ := hv
      have cP := Tryz.strconv_ParseInt_10_at64_range d (by omega) hP _ w hc (.inr ⟨te, pe, rfl⟩)
      have CP := Lib.hid cP
      clear cP hP hok hd hne hl hc hN
      by_cases hr0 : 0 < r.size
      · have he := nonempty_bool r hr0
        have hi : isPartI (wrap32 (r[0].toNat : Int)) = false := by rw [wrap32_byte, isPartI_cast, ← head_at r hr0]; simpa using hp
        clear hp
        go_enter Tryz.func62, Tryz.ntmps62
        go_wp2_with (first | (go_at_call 93; refine (isWordPart_any _ _).mono ?_; rintro e w' ⟨rfl, rfl⟩) | (go_at_call 96; refine CP.out.mono ?_; rintro e w1 ⟨N, rfl, hN0, hNh, hw⟩))
        go_ret3
        exact ⟨by rw [hN2.out]; rfl, hw⟩
      · have he := empty_bool r (by omega)
        have he2 := empty_list r (by omega)
        clear hp hr0
        go_enter Tryz.func62, Tryz.ntmps62
        go_wp2_with (first | (go_at_call 93; refine (isWordPart_any _ _).mono ?_; rintro e w' ⟨rfl, rfl⟩) | (go_at_call 96; refine CP.out.mono ?_; rintro e w1 ⟨N, rfl, hN0, hNh, hw⟩))
        go_ret3
        exact ⟨by rw [hN2.out]; rfl, hw⟩

namespace Tok
theorem below_trans {a b c : World} (h : Below a.heap.size a b) (k : Below b.heap.size b c) : Below a.heap.size a c := h.trans (k.mono h.size)
def FirstPost (l : Bs) (w : World) (e : Ending) (w' : World) : Prop :=
  e = .returned (.tuple #[.int .i64 (first l).1, .int .i64 (first l).2.1, .int .i64 (first l).2.2]) ∧ Below w.heap.size w w'
theorem take_data (s : ByteArray) (n : Nat) : (s.extract 0 n).data.toList = s.data.toList.take n := by rw [Lib.extract_data]; simp
theorem drop_data (s : ByteArray) (n : Nat) : (s.extract n s.size).data.toList = s.data.toList.drop n := by
  rw [Lib.extract_data]
  exact List.take_of_length_le (by rw [List.length_drop, size_list]; omega)
theorem take_size (s : ByteArray) (n : Nat) (h : n ≤ s.size) : (s.extract 0 n).size = n := by
  rw [← size_list, take_data, List.length_take, size_list]; omega
theorem drop_size (s : ByteArray) (n : Nat) : (s.extract n s.size).size = s.size - n := by
  rw [← size_list, drop_data, List.length_drop, size_list]
end Tok

set_option maxHeartbeats 1000000 in
theorem first_any (s : ByteArray) (w : World) (hv : Vars w) (h0 : 0 < s.size) (hs : s.size ≤ 65536) :
    Calls Tryz.prog 31 #[.string s] w (FirstPost s.data.toList w) := by
  have hl := size_list s
  have hwl := wordLen_le s.data.toList
  have hdl := digLen_le s.data.toList
  have cW := Lib.hid (wordLength_any s w (by unfold maxLen; omega))
  have cD := Lib.hid (fun w => digitsLength_any s w (by unfold maxLen; omega))
  have cS := Lib.hid (fun w => signLength_any s w h0)
  rw [hl] at hwl hdl
  by_cases h1 : 0 < wordLen s.data.toList
  · have hF : first s.data.toList = word (s.data.toList.take (wordLen s.data.toList)) := by unfold first; rw [if_pos h1]
    have HF := Lib.hid hF
    have cw := Lib.hid (fun w => word_any (s.extract 0 (wordLen s.data.toList)) w (by rw [take_size _ _ hwl]; unfold maxLen; omega))
    clear hF hl hdl cD cS hv
    go_enter Tryz.func31, Tryz.ntmps31
    go_wp2_with (first | (go_at_call 59; refine cW.out.mono ?_; rintro e w1 ⟨rfl, hb⟩) | (go_at_call 60; refine (cw.out _).mono ?_; rintro e w2 ⟨rfl, rfl⟩))
    go_ret3
    exact ⟨by rw [HF.out]; rfl, hb⟩
  · by_cases h2 : 0 < digLen s.data.toList
    · have hF : first s.data.toList = number (s.data.toList.take (digLen s.data.toList)) (s.data.toList.drop (digLen s.data.toList)) := by unfold first; rw [if_neg h1, if_pos h2]
      have hall := digits_all s.data.toList
      rw [← take_data] at hall
      obtain ⟨k, n, er, hk⟩ : ∃ k n er, number (s.data.toList.take (digLen s.data.toList)) (s.data.toList.drop (digLen s.data.toList)) = (k, n, er) := ⟨_, _, _, rfl⟩
      rw [hk] at hF
      rw [← take_data, ← drop_data] at hk
      have HF := Lib.hid hF
      have cn : Hid (∀ (w : World), Vars w → Calls Tryz.prog 62 #[.string (s.extract 0 (digLen s.data.toList)), .string (s.extract (digLen s.data.toList) s.size)] w fun e w' => e = .returned (.tuple #[.int .i64 k, .int .i64 n, .int .i64 er]) ∧ Below w.heap.size w w') := by
        show ∀ (w : World), Vars w → _
        intro w hv
        refine (number_any (s.extract 0 (digLen s.data.toList)) (s.extract (digLen s.data.toList) s.size) w hv hall (by rw [take_size _ _ hdl]; exact h2) (by rw [take_size _ _ hdl]; omega)).mono ?_
        rintro e w' ⟨he, hb⟩
        rw [hk] at he
        exact ⟨he, hb⟩
      clear hk
      have HV := Lib.hid hv
      clear hF hl cS hv hall
      go_enter Tryz.func31, Tryz.ntmps31
      go_wp2_with (first | (go_at_call 59; refine cW.out.mono ?_; rintro e w1 ⟨rfl, hb⟩) | (go_at_call 61; refine (cD.out _).mono ?_; rintro e w2 ⟨rfl, hb2⟩))
      have hb3 := below_trans hb hb2
      have hv2 : Vars w2.drew := HV.out.below hb3.drew
      go_region_with (go_at_call 62; refine (cn.out _ hv2).mono ?_; rintro e w3 ⟨rfl, hb4⟩)
      all_goals
        go_wp2_with fail
        go_ret3
        exact ⟨by rw [HF.out]; rfl, below_trans hb3 ((Below.refl _ w2).drew.trans hb4)⟩
    · by_cases h3 : 0 < signLen s.data.toList
      · have hF : first s.data.toList = (4, signLen s.data.toList, 0) := by unfold first; rw [if_neg h1, if_neg h2, if_pos h3]
        have HF := Lib.hid hF
        clear hF hl hv
        go_enter Tryz.func31, Tryz.ntmps31
        go_wp2_with (first | (go_at_call 59; refine cW.out.mono ?_; rintro e w1 ⟨rfl, hb⟩) | (go_at_call 61; refine (cD.out _).mono ?_; rintro e w2 ⟨rfl, hb2⟩) | (go_at_call 63; refine (cS.out _).mono ?_; rintro e w3 ⟨rfl, rfl⟩))
        go_ret3
        exact ⟨by rw [HF.out]; rfl, below_trans hb hb2⟩
      · have hF : first s.data.toList = (0, 0, 3) := by unfold first; rw [if_neg h1, if_neg h2, if_neg h3]
        have HF := Lib.hid hF
        clear hF hl hv
        go_enter Tryz.func31, Tryz.ntmps31
        go_wp2_with (first | (go_at_call 59; refine cW.out.mono ?_; rintro e w1 ⟨rfl, hb⟩) | (go_at_call 61; refine (cD.out _).mono ?_; rintro e w2 ⟨rfl, hb2⟩) | (go_at_call 63; refine (cS.out _).mono ?_; rintro e w3 ⟨rfl, rfl⟩))
        go_ret3
        exact ⟨by rw [HF.out]; rfl, below_trans hb hb2⟩
end Go.Proofs.YtncflfadgcaldaaGreatDoor
