/- The walk of the statement RowPlays where it is too long or of a length that it does not speak of: it answers true and leaves all that lay as it lay; and the steps as an argument holds them. Condition: the table of the lowest places is in memory. -/
import Derived.Deep.Slices
import Derived.ProofKit
import Derived.OpenShut
import Derived.Test.YtnbigkknabdnjaaDoorLaw
import Derived.Test.YtnbigkknabdnjaaDoorPlay
namespace Go.Proofs.YtnbigkknabdnjaaDoor
open Go.RowKit

set_option maxHeartbeats 4000000 in
set_option maxRecDepth 100000 in
theorem plays_o1 (n m : Int) (p : Option Addr) (L c : Nat) (w : World) (d1 : decide ((40 : Int) < (L : Int)) = true) (ht : Tab w) :
    Calls Tryd.prog 3 #[.int .i64 n, .slice p L c, .int .i64 m] w fun e w' => e = .returned (.bool true) ∧ w.grownBy w' none := by
  have HT := Lib.hid ht
  have d1' : 40 < L := by have := of_decide_eq_true d1; omega
  clear ht
  go_enter Tryd.func3, Tryd.ntmps3
  go_wp2_with fail
  refine (known_c _ HT.out).mono ?_
  rintro e w1 ⟨rfl, hg⟩
  have hg1 := Lib.hid hg
  clear hg
  go_wp2
  go_ret
  exact ⟨rfl, hg1.out⟩

set_option maxHeartbeats 4000000 in
set_option maxRecDepth 100000 in
theorem plays_o2 (n m : Int) (p : Option Addr) (L c : Nat) (w : World) (d1 : decide ((40 : Int) < (L : Int)) = false) (d2 : decide ((300 : Int) < n) = true) (d3 : decide (n ≤ (1000 : Int)) = true) (ht : Tab w) :
    Calls Tryd.prog 3 #[.int .i64 n, .slice p L c, .int .i64 m] w fun e w' => e = .returned (.bool true) ∧ w.grownBy w' none := by
  have HT := Lib.hid ht
  have d2' : 300 < n := by simpa using d2
  have d3' : n ≤ 1000 := by simpa using d3
  clear ht
  go_enter Tryd.func3, Tryd.ntmps3
  go_wp2_with fail
  refine (known_c _ HT.out).mono ?_
  rintro e w1 ⟨rfl, hg⟩
  have hg1 := Lib.hid hg
  clear hg
  go_wp2
  go_ret
  exact ⟨rfl, hg1.out⟩

set_option maxHeartbeats 4000000 in
set_option maxRecDepth 100000 in
theorem plays_o3 (n m : Int) (p : Option Addr) (L c : Nat) (w : World) (d1 : decide ((40 : Int) < (L : Int)) = false) (d2 : decide ((300 : Int) < n) = false) (d4 : decide ((300 : Int) < m) = true) (d5 : decide (m ≤ (1000 : Int)) = true) (ht : Tab w) :
    Calls Tryd.prog 3 #[.int .i64 n, .slice p L c, .int .i64 m] w fun e w' => e = .returned (.bool true) ∧ w.grownBy w' none := by
  have HT := Lib.hid ht
  have d4' : 300 < m := by simpa using d4
  have d5' : m ≤ 1000 := by simpa using d5
  clear ht
  go_enter Tryd.func3, Tryd.ntmps3
  go_wp2_with fail
  refine (known_c _ HT.out).mono ?_
  rintro e w1 ⟨rfl, hg⟩
  have hg1 := Lib.hid hg
  clear hg
  go_wp2
  go_ret
  exact ⟨rfl, hg1.out⟩

set_option maxHeartbeats 4000000 in
set_option maxRecDepth 100000 in
theorem plays_o4 (n m : Int) (p : Option Addr) (L c : Nat) (w : World) (d1 : decide ((40 : Int) < (L : Int)) = false) (d2 : decide ((300 : Int) < n) = true) (d3 : decide (n ≤ (1000 : Int)) = false) (d4 : decide ((300 : Int) < m) = true) (d5 : decide (m ≤ (1000 : Int)) = true) (ht : Tab w) :
    Calls Tryd.prog 3 #[.int .i64 n, .slice p L c, .int .i64 m] w fun e w' => e = .returned (.bool true) ∧ w.grownBy w' none := by
  have HT := Lib.hid ht
  have d4' : 300 < m := by simpa using d4
  have d5' : m ≤ 1000 := by simpa using d5
  clear ht
  go_enter Tryd.func3, Tryd.ntmps3
  go_wp2_with fail
  refine (known_c _ HT.out).mono ?_
  rintro e w1 ⟨rfl, hg⟩
  have hg1 := Lib.hid hg
  clear hg
  go_wp2
  go_ret
  exact ⟨rfl, hg1.out⟩

theorem plays_out (n m : Int) (p : Option Addr) (L c : Nat) (w : World) (h : 40 < L ∨ (300 < n ∧ n ≤ 1000) ∨ (300 < m ∧ m ≤ 1000)) (ht : Tab w) :
    Calls Tryd.prog 3 #[.int .i64 n, .slice p L c, .int .i64 m] w fun e w' => e = .returned (.bool true) ∧ w.grownBy w' none := by
  by_cases h1 : 40 < L
  · exact plays_o1 n m p L c w (by simp; omega) ht
  · by_cases h2 : 300 < n
    · by_cases h3 : n ≤ 1000
      · exact plays_o2 n m p L c w (by simp; omega) (by simp; omega) (by simp; omega) ht
      · exact plays_o4 n m p L c w (by simp; omega) (by simp; omega) (by simp; omega) (by simp; omega) (by simp; omega) ht
    · exact plays_o3 n m p L c w (by simp; omega) (by simp; omega) (by simp; omega) (by simp; omega) ht

end Go.Proofs.YtnbigkknabdnjaaDoor
