/- lexer: keywords. -/
import Derived.Test.YtjedcijddlilaaaGreatDoorLxS
namespace Go.Proofs.YtjedcijddlilaaaGreatDoor
open Go.RowKit

/-- The keywords. -/
def kwL : List (List UInt8) := [[97, 110, 100], [97, 110, 121], [97, 115], [98, 111, 111, 108], [100, 101, 112, 114, 101, 99, 97, 116, 101, 100], [101, 108, 115, 101], [101, 120, 112, 111, 114, 116], [102, 97, 108, 115, 101], [102, 110], [102, 111, 108, 100], [102, 114, 111, 109], [105, 102], [105, 109, 112, 111, 114, 116], [105, 110], [105, 110, 116], [108, 101, 110, 103, 116, 104], [108, 101, 116], [108, 105, 115, 116], [109, 97, 116, 99, 104], [109, 111, 100, 117, 108, 101], [110, 111, 110, 101], [110, 111, 116], [111, 114], [116, 101, 120, 116], [116, 104, 101, 110], [116, 114, 117, 101], [116, 121, 112, 101], [117, 115, 101]]
def isKw (l : List UInt8) : Bool := kwL.contains l
theorem kw_0 (s : ByteArray) (w : World)  (h0 : (s.toList == [97, 110, 100]) = true) :
    Calls Tryz.prog 196 #[.string s] w fun e w' => e = .returned (.bool true) ∧ w' = w := by
  go_enter Tryz.func196, Tryz.ntmps196
  go_wp2_with fail
  go_ret
  exact ⟨rfl, rfl⟩
theorem kw_1 (s : ByteArray) (w : World) (h0 : (s.toList == [97, 110, 100]) = false) (h1 : (s.toList == [97, 110, 121]) = true) :
    Calls Tryz.prog 196 #[.string s] w fun e w' => e = .returned (.bool true) ∧ w' = w := by
  go_enter Tryz.func196, Tryz.ntmps196
  go_wp2_with fail
  go_ret
  exact ⟨rfl, rfl⟩
theorem kw_2 (s : ByteArray) (w : World) (h0 : (s.toList == [97, 110, 100]) = false) (h1 : (s.toList == [97, 110, 121]) = false) (h2 : (s.toList == [97, 115]) = true) :
    Calls Tryz.prog 196 #[.string s] w fun e w' => e = .returned (.bool true) ∧ w' = w := by
  go_enter Tryz.func196, Tryz.ntmps196
  go_wp2_with fail
  go_ret
  exact ⟨rfl, rfl⟩
theorem kw_3 (s : ByteArray) (w : World) (h0 : (s.toList == [97, 110, 100]) = false) (h1 : (s.toList == [97, 110, 121]) = false) (h2 : (s.toList == [97, 115]) = false) (h3 : (s.toList == [98, 111, 111, 108]) = true) :
    Calls Tryz.prog 196 #[.string s] w fun e w' => e = .returned (.bool true) ∧ w' = w := by
  go_enter Tryz.func196, Tryz.ntmps196
  go_wp2_with fail
  go_ret
  exact ⟨rfl, rfl⟩
theorem kw_4 (s : ByteArray) (w : World) (h0 : (s.toList == [97, 110, 100]) = false) (h1 : (s.toList == [97, 110, 121]) = false) (h2 : (s.toList == [97, 115]) = false) (h3 : (s.toList == [98, 111, 111, 108]) = false) (h4 : (s.toList == [100, 101, 112, 114, 101, 99, 97, 116, 101, 100]) = true) :
    Calls Tryz.prog 196 #[.string s] w fun e w' => e = .returned (.bool true) ∧ w' = w := by
  go_enter Tryz.func196, Tryz.ntmps196
  go_wp2_with fail
  go_ret
  exact ⟨rfl, rfl⟩
theorem kw_5 (s : ByteArray) (w : World) (h0 : (s.toList == [97, 110, 100]) = false) (h1 : (s.toList == [97, 110, 121]) = false) (h2 : (s.toList == [97, 115]) = false) (h3 : (s.toList == [98, 111, 111, 108]) = false) (h4 : (s.toList == [100, 101, 112, 114, 101, 99, 97, 116, 101, 100]) = false) (h5 : (s.toList == [101, 108, 115, 101]) = true) :
    Calls Tryz.prog 196 #[.string s] w fun e w' => e = .returned (.bool true) ∧ w' = w := by
  go_enter Tryz.func196, Tryz.ntmps196
  go_wp2_with fail
  go_ret
  exact ⟨rfl, rfl⟩
theorem kw_6 (s : ByteArray) (w : World) (h0 : (s.toList == [97, 110, 100]) = false) (h1 : (s.toList == [97, 110, 121]) = false) (h2 : (s.toList == [97, 115]) = false) (h3 : (s.toList == [98, 111, 111, 108]) = false) (h4 : (s.toList == [100, 101, 112, 114, 101, 99, 97, 116, 101, 100]) = false) (h5 : (s.toList == [101, 108, 115, 101]) = false) (h6 : (s.toList == [101, 120, 112, 111, 114, 116]) = true) :
    Calls Tryz.prog 196 #[.string s] w fun e w' => e = .returned (.bool true) ∧ w' = w := by
  go_enter Tryz.func196, Tryz.ntmps196
  go_wp2_with fail
  go_ret
  exact ⟨rfl, rfl⟩
theorem kw_7 (s : ByteArray) (w : World) (h0 : (s.toList == [97, 110, 100]) = false) (h1 : (s.toList == [97, 110, 121]) = false) (h2 : (s.toList == [97, 115]) = false) (h3 : (s.toList == [98, 111, 111, 108]) = false) (h4 : (s.toList == [100, 101, 112, 114, 101, 99, 97, 116, 101, 100]) = false) (h5 : (s.toList == [101, 108, 115, 101]) = false) (h6 : (s.toList == [101, 120, 112, 111, 114, 116]) = false) (h7 : (s.toList == [102, 97, 108, 115, 101]) = true) :
    Calls Tryz.prog 196 #[.string s] w fun e w' => e = .returned (.bool true) ∧ w' = w := by
  go_enter Tryz.func196, Tryz.ntmps196
  go_wp2_with fail
  go_ret
  exact ⟨rfl, rfl⟩
theorem kw_8 (s : ByteArray) (w : World) (h0 : (s.toList == [97, 110, 100]) = false) (h1 : (s.toList == [97, 110, 121]) = false) (h2 : (s.toList == [97, 115]) = false) (h3 : (s.toList == [98, 111, 111, 108]) = false) (h4 : (s.toList == [100, 101, 112, 114, 101, 99, 97, 116, 101, 100]) = false) (h5 : (s.toList == [101, 108, 115, 101]) = false) (h6 : (s.toList == [101, 120, 112, 111, 114, 116]) = false) (h7 : (s.toList == [102, 97, 108, 115, 101]) = false) (h8 : (s.toList == [102, 110]) = true) :
    Calls Tryz.prog 196 #[.string s] w fun e w' => e = .returned (.bool true) ∧ w' = w := by
  go_enter Tryz.func196, Tryz.ntmps196
  go_wp2_with fail
  go_ret
  exact ⟨rfl, rfl⟩
theorem kw_9 (s : ByteArray) (w : World) (h0 : (s.toList == [97, 110, 100]) = false) (h1 : (s.toList == [97, 110, 121]) = false) (h2 : (s.toList == [97, 115]) = false) (h3 : (s.toList == [98, 111, 111, 108]) = false) (h4 : (s.toList == [100, 101, 112, 114, 101, 99, 97, 116, 101, 100]) = false) (h5 : (s.toList == [101, 108, 115, 101]) = false) (h6 : (s.toList == [101, 120, 112, 111, 114, 116]) = false) (h7 : (s.toList == [102, 97, 108, 115, 101]) = false) (h8 : (s.toList == [102, 110]) = false) (h9 : (s.toList == [102, 111, 108, 100]) = true) :
    Calls Tryz.prog 196 #[.string s] w fun e w' => e = .returned (.bool true) ∧ w' = w := by
  go_enter Tryz.func196, Tryz.ntmps196
  go_wp2_with fail
  go_ret
  exact ⟨rfl, rfl⟩
theorem kw_10 (s : ByteArray) (w : World) (h0 : (s.toList == [97, 110, 100]) = false) (h1 : (s.toList == [97, 110, 121]) = false) (h2 : (s.toList == [97, 115]) = false) (h3 : (s.toList == [98, 111, 111, 108]) = false) (h4 : (s.toList == [100, 101, 112, 114, 101, 99, 97, 116, 101, 100]) = false) (h5 : (s.toList == [101, 108, 115, 101]) = false) (h6 : (s.toList == [101, 120, 112, 111, 114, 116]) = false) (h7 : (s.toList == [102, 97, 108, 115, 101]) = false) (h8 : (s.toList == [102, 110]) = false) (h9 : (s.toList == [102, 111, 108, 100]) = false) (h10 : (s.toList == [102, 114, 111, 109]) = true) :
    Calls Tryz.prog 196 #[.string s] w fun e w' => e = .returned (.bool true) ∧ w' = w := by
  go_enter Tryz.func196, Tryz.ntmps196
  go_wp2_with fail
  go_ret
  exact ⟨rfl, rfl⟩
theorem kw_11 (s : ByteArray) (w : World) (h0 : (s.toList == [97, 110, 100]) = false) (h1 : (s.toList == [97, 110, 121]) = false) (h2 : (s.toList == [97, 115]) = false) (h3 : (s.toList == [98, 111, 111, 108]) = false) (h4 : (s.toList == [100, 101, 112, 114, 101, 99, 97, 116, 101, 100]) = false) (h5 : (s.toList == [101, 108, 115, 101]) = false) (h6 : (s.toList == [101, 120, 112, 111, 114, 116]) = false) (h7 : (s.toList == [102, 97, 108, 115, 101]) = false) (h8 : (s.toList == [102, 110]) = false) (h9 : (s.toList == [102, 111, 108, 100]) = false) (h10 : (s.toList == [102, 114, 111, 109]) = false) (h11 : (s.toList == [105, 102]) = true) :
    Calls Tryz.prog 196 #[.string s] w fun e w' => e = .returned (.bool true) ∧ w' = w := by
  go_enter Tryz.func196, Tryz.ntmps196
  go_wp2_with fail
  go_ret
  exact ⟨rfl, rfl⟩
theorem kw_12 (s : ByteArray) (w : World) (h0 : (s.toList == [97, 110, 100]) = false) (h1 : (s.toList == [97, 110, 121]) = false) (h2 : (s.toList == [97, 115]) = false) (h3 : (s.toList == [98, 111, 111, 108]) = false) (h4 : (s.toList == [100, 101, 112, 114, 101, 99, 97, 116, 101, 100]) = false) (h5 : (s.toList == [101, 108, 115, 101]) = false) (h6 : (s.toList == [101, 120, 112, 111, 114, 116]) = false) (h7 : (s.toList == [102, 97, 108, 115, 101]) = false) (h8 : (s.toList == [102, 110]) = false) (h9 : (s.toList == [102, 111, 108, 100]) = false) (h10 : (s.toList == [102, 114, 111, 109]) = false) (h11 : (s.toList == [105, 102]) = false) (h12 : (s.toList == [105, 109, 112, 111, 114, 116]) = true) :
    Calls Tryz.prog 196 #[.string s] w fun e w' => e = .returned (.bool true) ∧ w' = w := by
  go_enter Tryz.func196, Tryz.ntmps196
  go_wp2_with fail
  go_ret
  exact ⟨rfl, rfl⟩
theorem kw_13 (s : ByteArray) (w : World) (h0 : (s.toList == [97, 110, 100]) = false) (h1 : (s.toList == [97, 110, 121]) = false) (h2 : (s.toList == [97, 115]) = false) (h3 : (s.toList == [98, 111, 111, 108]) = false) (h4 : (s.toList == [100, 101, 112, 114, 101, 99, 97, 116, 101, 100]) = false) (h5 : (s.toList == [101, 108, 115, 101]) = false) (h6 : (s.toList == [101, 120, 112, 111, 114, 116]) = false) (h7 : (s.toList == [102, 97, 108, 115, 101]) = false) (h8 : (s.toList == [102, 110]) = false) (h9 : (s.toList == [102, 111, 108, 100]) = false) (h10 : (s.toList == [102, 114, 111, 109]) = false) (h11 : (s.toList == [105, 102]) = false) (h12 : (s.toList == [105, 109, 112, 111, 114, 116]) = false) (h13 : (s.toList == [105, 110]) = true) :
    Calls Tryz.prog 196 #[.string s] w fun e w' => e = .returned (.bool true) ∧ w' = w := by
  go_enter Tryz.func196, Tryz.ntmps196
  go_wp2_with fail
  go_ret
  exact ⟨rfl, rfl⟩
theorem kw_14 (s : ByteArray) (w : World) (h0 : (s.toList == [97, 110, 100]) = false) (h1 : (s.toList == [97, 110, 121]) = false) (h2 : (s.toList == [97, 115]) = false) (h3 : (s.toList == [98, 111, 111, 108]) = false) (h4 : (s.toList == [100, 101, 112, 114, 101, 99, 97, 116, 101, 100]) = false) (h5 : (s.toList == [101, 108, 115, 101]) = false) (h6 : (s.toList == [101, 120, 112, 111, 114, 116]) = false) (h7 : (s.toList == [102, 97, 108, 115, 101]) = false) (h8 : (s.toList == [102, 110]) = false) (h9 : (s.toList == [102, 111, 108, 100]) = false) (h10 : (s.toList == [102, 114, 111, 109]) = false) (h11 : (s.toList == [105, 102]) = false) (h12 : (s.toList == [105, 109, 112, 111, 114, 116]) = false) (h13 : (s.toList == [105, 110]) = false) (h14 : (s.toList == [105, 110, 116]) = true) :
    Calls Tryz.prog 196 #[.string s] w fun e w' => e = .returned (.bool true) ∧ w' = w := by
  go_enter Tryz.func196, Tryz.ntmps196
  go_wp2_with fail
  go_ret
  exact ⟨rfl, rfl⟩
theorem kw_15 (s : ByteArray) (w : World) (h0 : (s.toList == [97, 110, 100]) = false) (h1 : (s.toList == [97, 110, 121]) = false) (h2 : (s.toList == [97, 115]) = false) (h3 : (s.toList == [98, 111, 111, 108]) = false) (h4 : (s.toList == [100, 101, 112, 114, 101, 99, 97, 116, 101, 100]) = false) (h5 : (s.toList == [101, 108, 115, 101]) = false) (h6 : (s.toList == [101, 120, 112, 111, 114, 116]) = false) (h7 : (s.toList == [102, 97, 108, 115, 101]) = false) (h8 : (s.toList == [102, 110]) = false) (h9 : (s.toList == [102, 111, 108, 100]) = false) (h10 : (s.toList == [102, 114, 111, 109]) = false) (h11 : (s.toList == [105, 102]) = false) (h12 : (s.toList == [105, 109, 112, 111, 114, 116]) = false) (h13 : (s.toList == [105, 110]) = false) (h14 : (s.toList == [105, 110, 116]) = false) (h15 : (s.toList == [108, 101, 110, 103, 116, 104]) = true) :
    Calls Tryz.prog 196 #[.string s] w fun e w' => e = .returned (.bool true) ∧ w' = w := by
  go_enter Tryz.func196, Tryz.ntmps196
  go_wp2_with fail
  go_ret
  exact ⟨rfl, rfl⟩
theorem kw_16 (s : ByteArray) (w : World) (h0 : (s.toList == [97, 110, 100]) = false) (h1 : (s.toList == [97, 110, 121]) = false) (h2 : (s.toList == [97, 115]) = false) (h3 : (s.toList == [98, 111, 111, 108]) = false) (h4 : (s.toList == [100, 101, 112, 114, 101, 99, 97, 116, 101, 100]) = false) (h5 : (s.toList == [101, 108, 115, 101]) = false) (h6 : (s.toList == [101, 120, 112, 111, 114, 116]) = false) (h7 : (s.toList == [102, 97, 108, 115, 101]) = false) (h8 : (s.toList == [102, 110]) = false) (h9 : (s.toList == [102, 111, 108, 100]) = false) (h10 : (s.toList == [102, 114, 111, 109]) = false) (h11 : (s.toList == [105, 102]) = false) (h12 : (s.toList == [105, 109, 112, 111, 114, 116]) = false) (h13 : (s.toList == [105, 110]) = false) (h14 : (s.toList == [105, 110, 116]) = false) (h15 : (s.toList == [108, 101, 110, 103, 116, 104]) = false) (h16 : (s.toList == [108, 101, 116]) = true) :
    Calls Tryz.prog 196 #[.string s] w fun e w' => e = .returned (.bool true) ∧ w' = w := by
  go_enter Tryz.func196, Tryz.ntmps196
  go_wp2_with fail
  go_ret
  exact ⟨rfl, rfl⟩
theorem kw_17 (s : ByteArray) (w : World) (h0 : (s.toList == [97, 110, 100]) = false) (h1 : (s.toList == [97, 110, 121]) = false) (h2 : (s.toList == [97, 115]) = false) (h3 : (s.toList == [98, 111, 111, 108]) = false) (h4 : (s.toList == [100, 101, 112, 114, 101, 99, 97, 116, 101, 100]) = false) (h5 : (s.toList == [101, 108, 115, 101]) = false) (h6 : (s.toList == [101, 120, 112, 111, 114, 116]) = false) (h7 : (s.toList == [102, 97, 108, 115, 101]) = false) (h8 : (s.toList == [102, 110]) = false) (h9 : (s.toList == [102, 111, 108, 100]) = false) (h10 : (s.toList == [102, 114, 111, 109]) = false) (h11 : (s.toList == [105, 102]) = false) (h12 : (s.toList == [105, 109, 112, 111, 114, 116]) = false) (h13 : (s.toList == [105, 110]) = false) (h14 : (s.toList == [105, 110, 116]) = false) (h15 : (s.toList == [108, 101, 110, 103, 116, 104]) = false) (h16 : (s.toList == [108, 101, 116]) = false) (h17 : (s.toList == [108, 105, 115, 116]) = true) :
    Calls Tryz.prog 196 #[.string s] w fun e w' => e = .returned (.bool true) ∧ w' = w := by
  go_enter Tryz.func196, Tryz.ntmps196
  go_wp2_with fail
  go_ret
  exact ⟨rfl, rfl⟩
theorem kw_18 (s : ByteArray) (w : World) (h0 : (s.toList == [97, 110, 100]) = false) (h1 : (s.toList == [97, 110, 121]) = false) (h2 : (s.toList == [97, 115]) = false) (h3 : (s.toList == [98, 111, 111, 108]) = false) (h4 : (s.toList == [100, 101, 112, 114, 101, 99, 97, 116, 101, 100]) = false) (h5 : (s.toList == [101, 108, 115, 101]) = false) (h6 : (s.toList == [101, 120, 112, 111, 114, 116]) = false) (h7 : (s.toList == [102, 97, 108, 115, 101]) = false) (h8 : (s.toList == [102, 110]) = false) (h9 : (s.toList == [102, 111, 108, 100]) = false) (h10 : (s.toList == [102, 114, 111, 109]) = false) (h11 : (s.toList == [105, 102]) = false) (h12 : (s.toList == [105, 109, 112, 111, 114, 116]) = false) (h13 : (s.toList == [105, 110]) = false) (h14 : (s.toList == [105, 110, 116]) = false) (h15 : (s.toList == [108, 101, 110, 103, 116, 104]) = false) (h16 : (s.toList == [108, 101, 116]) = false) (h17 : (s.toList == [108, 105, 115, 116]) = false) (h18 : (s.toList == [109, 97, 116, 99, 104]) = true) :
    Calls Tryz.prog 196 #[.string s] w fun e w' => e = .returned (.bool true) ∧ w' = w := by
  go_enter Tryz.func196, Tryz.ntmps196
  go_wp2_with fail
  go_ret
  exact ⟨rfl, rfl⟩
theorem kw_19 (s : ByteArray) (w : World) (h0 : (s.toList == [97, 110, 100]) = false) (h1 : (s.toList == [97, 110, 121]) = false) (h2 : (s.toList == [97, 115]) = false) (h3 : (s.toList == [98, 111, 111, 108]) = false) (h4 : (s.toList == [100, 101, 112, 114, 101, 99, 97, 116, 101, 100]) = false) (h5 : (s.toList == [101, 108, 115, 101]) = false) (h6 : (s.toList == [101, 120, 112, 111, 114, 116]) = false) (h7 : (s.toList == [102, 97, 108, 115, 101]) = false) (h8 : (s.toList == [102, 110]) = false) (h9 : (s.toList == [102, 111, 108, 100]) = false) (h10 : (s.toList == [102, 114, 111, 109]) = false) (h11 : (s.toList == [105, 102]) = false) (h12 : (s.toList == [105, 109, 112, 111, 114, 116]) = false) (h13 : (s.toList == [105, 110]) = false) (h14 : (s.toList == [105, 110, 116]) = false) (h15 : (s.toList == [108, 101, 110, 103, 116, 104]) = false) (h16 : (s.toList == [108, 101, 116]) = false) (h17 : (s.toList == [108, 105, 115, 116]) = false) (h18 : (s.toList == [109, 97, 116, 99, 104]) = false) (h19 : (s.toList == [109, 111, 100, 117, 108, 101]) = true) :
    Calls Tryz.prog 196 #[.string s] w fun e w' => e = .returned (.bool true) ∧ w' = w := by
  go_enter Tryz.func196, Tryz.ntmps196
  go_wp2_with fail
  go_ret
  exact ⟨rfl, rfl⟩
theorem kw_20 (s : ByteArray) (w : World) (h0 : (s.toList == [97, 110, 100]) = false) (h1 : (s.toList == [97, 110, 121]) = false) (h2 : (s.toList == [97, 115]) = false) (h3 : (s.toList == [98, 111, 111, 108]) = false) (h4 : (s.toList == [100, 101, 112, 114, 101, 99, 97, 116, 101, 100]) = false) (h5 : (s.toList == [101, 108, 115, 101]) = false) (h6 : (s.toList == [101, 120, 112, 111, 114, 116]) = false) (h7 : (s.toList == [102, 97, 108, 115, 101]) = false) (h8 : (s.toList == [102, 110]) = false) (h9 : (s.toList == [102, 111, 108, 100]) = false) (h10 : (s.toList == [102, 114, 111, 109]) = false) (h11 : (s.toList == [105, 102]) = false) (h12 : (s.toList == [105, 109, 112, 111, 114, 116]) = false) (h13 : (s.toList == [105, 110]) = false) (h14 : (s.toList == [105, 110, 116]) = false) (h15 : (s.toList == [108, 101, 110, 103, 116, 104]) = false) (h16 : (s.toList == [108, 101, 116]) = false) (h17 : (s.toList == [108, 105, 115, 116]) = false) (h18 : (s.toList == [109, 97, 116, 99, 104]) = false) (h19 : (s.toList == [109, 111, 100, 117, 108, 101]) = false) (h20 : (s.toList == [110, 111, 110, 101]) = true) :
    Calls Tryz.prog 196 #[.string s] w fun e w' => e = .returned (.bool true) ∧ w' = w := by
  go_enter Tryz.func196, Tryz.ntmps196
  go_wp2_with fail
  go_ret
  exact ⟨rfl, rfl⟩
theorem kw_21 (s : ByteArray) (w : World) (h0 : (s.toList == [97, 110, 100]) = false) (h1 : (s.toList == [97, 110, 121]) = false) (h2 : (s.toList == [97, 115]) = false) (h3 : (s.toList == [98, 111, 111, 108]) = false) (h4 : (s.toList == [100, 101, 112, 114, 101, 99, 97, 116, 101, 100]) = false) (h5 : (s.toList == [101, 108, 115, 101]) = false) (h6 : (s.toList == [101, 120, 112, 111, 114, 116]) = false) (h7 : (s.toList == [102, 97, 108, 115, 101]) = false) (h8 : (s.toList == [102, 110]) = false) (h9 : (s.toList == [102, 111, 108, 100]) = false) (h10 : (s.toList == [102, 114, 111, 109]) = false) (h11 : (s.toList == [105, 102]) = false) (h12 : (s.toList == [105, 109, 112, 111, 114, 116]) = false) (h13 : (s.toList == [105, 110]) = false) (h14 : (s.toList == [105, 110, 116]) = false) (h15 : (s.toList == [108, 101, 110, 103, 116, 104]) = false) (h16 : (s.toList == [108, 101, 116]) = false) (h17 : (s.toList == [108, 105, 115, 116]) = false) (h18 : (s.toList == [109, 97, 116, 99, 104]) = false) (h19 : (s.toList == [109, 111, 100, 117, 108, 101]) = false) (h20 : (s.toList == [110, 111, 110, 101]) = false) (h21 : (s.toList == [110, 111, 116]) = true) :
    Calls Tryz.prog 196 #[.string s] w fun e w' => e = .returned (.bool true) ∧ w' = w := by
  go_enter Tryz.func196, Tryz.ntmps196
  go_wp2_with fail
  go_ret
  exact ⟨rfl, rfl⟩
theorem kw_22 (s : ByteArray) (w : World) (h0 : (s.toList == [97, 110, 100]) = false) (h1 : (s.toList == [97, 110, 121]) = false) (h2 : (s.toList == [97, 115]) = false) (h3 : (s.toList == [98, 111, 111, 108]) = false) (h4 : (s.toList == [100, 101, 112, 114, 101, 99, 97, 116, 101, 100]) = false) (h5 : (s.toList == [101, 108, 115, 101]) = false) (h6 : (s.toList == [101, 120, 112, 111, 114, 116]) = false) (h7 : (s.toList == [102, 97, 108, 115, 101]) = false) (h8 : (s.toList == [102, 110]) = false) (h9 : (s.toList == [102, 111, 108, 100]) = false) (h10 : (s.toList == [102, 114, 111, 109]) = false) (h11 : (s.toList == [105, 102]) = false) (h12 : (s.toList == [105, 109, 112, 111, 114, 116]) = false) (h13 : (s.toList == [105, 110]) = false) (h14 : (s.toList == [105, 110, 116]) = false) (h15 : (s.toList == [108, 101, 110, 103, 116, 104]) = false) (h16 : (s.toList == [108, 101, 116]) = false) (h17 : (s.toList == [108, 105, 115, 116]) = false) (h18 : (s.toList == [109, 97, 116, 99, 104]) = false) (h19 : (s.toList == [109, 111, 100, 117, 108, 101]) = false) (h20 : (s.toList == [110, 111, 110, 101]) = false) (h21 : (s.toList == [110, 111, 116]) = false) (h22 : (s.toList == [111, 114]) = true) :
    Calls Tryz.prog 196 #[.string s] w fun e w' => e = .returned (.bool true) ∧ w' = w := by
  go_enter Tryz.func196, Tryz.ntmps196
  go_wp2_with fail
  go_ret
  exact ⟨rfl, rfl⟩
theorem kw_23 (s : ByteArray) (w : World) (h0 : (s.toList == [97, 110, 100]) = false) (h1 : (s.toList == [97, 110, 121]) = false) (h2 : (s.toList == [97, 115]) = false) (h3 : (s.toList == [98, 111, 111, 108]) = false) (h4 : (s.toList == [100, 101, 112, 114, 101, 99, 97, 116, 101, 100]) = false) (h5 : (s.toList == [101, 108, 115, 101]) = false) (h6 : (s.toList == [101, 120, 112, 111, 114, 116]) = false) (h7 : (s.toList == [102, 97, 108, 115, 101]) = false) (h8 : (s.toList == [102, 110]) = false) (h9 : (s.toList == [102, 111, 108, 100]) = false) (h10 : (s.toList == [102, 114, 111, 109]) = false) (h11 : (s.toList == [105, 102]) = false) (h12 : (s.toList == [105, 109, 112, 111, 114, 116]) = false) (h13 : (s.toList == [105, 110]) = false) (h14 : (s.toList == [105, 110, 116]) = false) (h15 : (s.toList == [108, 101, 110, 103, 116, 104]) = false) (h16 : (s.toList == [108, 101, 116]) = false) (h17 : (s.toList == [108, 105, 115, 116]) = false) (h18 : (s.toList == [109, 97, 116, 99, 104]) = false) (h19 : (s.toList == [109, 111, 100, 117, 108, 101]) = false) (h20 : (s.toList == [110, 111, 110, 101]) = false) (h21 : (s.toList == [110, 111, 116]) = false) (h22 : (s.toList == [111, 114]) = false) (h23 : (s.toList == [116, 101, 120, 116]) = true) :
    Calls Tryz.prog 196 #[.string s] w fun e w' => e = .returned (.bool true) ∧ w' = w := by
  go_enter Tryz.func196, Tryz.ntmps196
  go_wp2_with fail
  go_ret
  exact ⟨rfl, rfl⟩
theorem kw_24 (s : ByteArray) (w : World) (h0 : (s.toList == [97, 110, 100]) = false) (h1 : (s.toList == [97, 110, 121]) = false) (h2 : (s.toList == [97, 115]) = false) (h3 : (s.toList == [98, 111, 111, 108]) = false) (h4 : (s.toList == [100, 101, 112, 114, 101, 99, 97, 116, 101, 100]) = false) (h5 : (s.toList == [101, 108, 115, 101]) = false) (h6 : (s.toList == [101, 120, 112, 111, 114, 116]) = false) (h7 : (s.toList == [102, 97, 108, 115, 101]) = false) (h8 : (s.toList == [102, 110]) = false) (h9 : (s.toList == [102, 111, 108, 100]) = false) (h10 : (s.toList == [102, 114, 111, 109]) = false) (h11 : (s.toList == [105, 102]) = false) (h12 : (s.toList == [105, 109, 112, 111, 114, 116]) = false) (h13 : (s.toList == [105, 110]) = false) (h14 : (s.toList == [105, 110, 116]) = false) (h15 : (s.toList == [108, 101, 110, 103, 116, 104]) = false) (h16 : (s.toList == [108, 101, 116]) = false) (h17 : (s.toList == [108, 105, 115, 116]) = false) (h18 : (s.toList == [109, 97, 116, 99, 104]) = false) (h19 : (s.toList == [109, 111, 100, 117, 108, 101]) = false) (h20 : (s.toList == [110, 111, 110, 101]) = false) (h21 : (s.toList == [110, 111, 116]) = false) (h22 : (s.toList == [111, 114]) = false) (h23 : (s.toList == [116, 101, 120, 116]) = false) (h24 : (s.toList == [116, 104, 101, 110]) = true) :
    Calls Tryz.prog 196 #[.string s] w fun e w' => e = .returned (.bool true) ∧ w' = w := by
  go_enter Tryz.func196, Tryz.ntmps196
  go_wp2_with fail
  go_ret
  exact ⟨rfl, rfl⟩
theorem kw_25 (s : ByteArray) (w : World) (h0 : (s.toList == [97, 110, 100]) = false) (h1 : (s.toList == [97, 110, 121]) = false) (h2 : (s.toList == [97, 115]) = false) (h3 : (s.toList == [98, 111, 111, 108]) = false) (h4 : (s.toList == [100, 101, 112, 114, 101, 99, 97, 116, 101, 100]) = false) (h5 : (s.toList == [101, 108, 115, 101]) = false) (h6 : (s.toList == [101, 120, 112, 111, 114, 116]) = false) (h7 : (s.toList == [102, 97, 108, 115, 101]) = false) (h8 : (s.toList == [102, 110]) = false) (h9 : (s.toList == [102, 111, 108, 100]) = false) (h10 : (s.toList == [102, 114, 111, 109]) = false) (h11 : (s.toList == [105, 102]) = false) (h12 : (s.toList == [105, 109, 112, 111, 114, 116]) = false) (h13 : (s.toList == [105, 110]) = false) (h14 : (s.toList == [105, 110, 116]) = false) (h15 : (s.toList == [108, 101, 110, 103, 116, 104]) = false) (h16 : (s.toList == [108, 101, 116]) = false) (h17 : (s.toList == [108, 105, 115, 116]) = false) (h18 : (s.toList == [109, 97, 116, 99, 104]) = false) (h19 : (s.toList == [109, 111, 100, 117, 108, 101]) = false) (h20 : (s.toList == [110, 111, 110, 101]) = false) (h21 : (s.toList == [110, 111, 116]) = false) (h22 : (s.toList == [111, 114]) = false) (h23 : (s.toList == [116, 101, 120, 116]) = false) (h24 : (s.toList == [116, 104, 101, 110]) = false) (h25 : (s.toList == [116, 114, 117, 101]) = true) :
    Calls Tryz.prog 196 #[.string s] w fun e w' => e = .returned (.bool true) ∧ w' = w := by
  go_enter Tryz.func196, Tryz.ntmps196
  go_wp2_with fail
  go_ret
  exact ⟨rfl, rfl⟩
theorem kw_26 (s : ByteArray) (w : World) (h0 : (s.toList == [97, 110, 100]) = false) (h1 : (s.toList == [97, 110, 121]) = false) (h2 : (s.toList == [97, 115]) = false) (h3 : (s.toList == [98, 111, 111, 108]) = false) (h4 : (s.toList == [100, 101, 112, 114, 101, 99, 97, 116, 101, 100]) = false) (h5 : (s.toList == [101, 108, 115, 101]) = false) (h6 : (s.toList == [101, 120, 112, 111, 114, 116]) = false) (h7 : (s.toList == [102, 97, 108, 115, 101]) = false) (h8 : (s.toList == [102, 110]) = false) (h9 : (s.toList == [102, 111, 108, 100]) = false) (h10 : (s.toList == [102, 114, 111, 109]) = false) (h11 : (s.toList == [105, 102]) = false) (h12 : (s.toList == [105, 109, 112, 111, 114, 116]) = false) (h13 : (s.toList == [105, 110]) = false) (h14 : (s.toList == [105, 110, 116]) = false) (h15 : (s.toList == [108, 101, 110, 103, 116, 104]) = false) (h16 : (s.toList == [108, 101, 116]) = false) (h17 : (s.toList == [108, 105, 115, 116]) = false) (h18 : (s.toList == [109, 97, 116, 99, 104]) = false) (h19 : (s.toList == [109, 111, 100, 117, 108, 101]) = false) (h20 : (s.toList == [110, 111, 110, 101]) = false) (h21 : (s.toList == [110, 111, 116]) = false) (h22 : (s.toList == [111, 114]) = false) (h23 : (s.toList == [116, 101, 120, 116]) = false) (h24 : (s.toList == [116, 104, 101, 110]) = false) (h25 : (s.toList == [116, 114, 117, 101]) = false) (h26 : (s.toList == [116, 121, 112, 101]) = true) :
    Calls Tryz.prog 196 #[.string s] w fun e w' => e = .returned (.bool true) ∧ w' = w := by
  go_enter Tryz.func196, Tryz.ntmps196
  go_wp2_with fail
  go_ret
  exact ⟨rfl, rfl⟩
theorem kw_27 (s : ByteArray) (w : World) (h0 : (s.toList == [97, 110, 100]) = false) (h1 : (s.toList == [97, 110, 121]) = false) (h2 : (s.toList == [97, 115]) = false) (h3 : (s.toList == [98, 111, 111, 108]) = false) (h4 : (s.toList == [100, 101, 112, 114, 101, 99, 97, 116, 101, 100]) = false) (h5 : (s.toList == [101, 108, 115, 101]) = false) (h6 : (s.toList == [101, 120, 112, 111, 114, 116]) = false) (h7 : (s.toList == [102, 97, 108, 115, 101]) = false) (h8 : (s.toList == [102, 110]) = false) (h9 : (s.toList == [102, 111, 108, 100]) = false) (h10 : (s.toList == [102, 114, 111, 109]) = false) (h11 : (s.toList == [105, 102]) = false) (h12 : (s.toList == [105, 109, 112, 111, 114, 116]) = false) (h13 : (s.toList == [105, 110]) = false) (h14 : (s.toList == [105, 110, 116]) = false) (h15 : (s.toList == [108, 101, 110, 103, 116, 104]) = false) (h16 : (s.toList == [108, 101, 116]) = false) (h17 : (s.toList == [108, 105, 115, 116]) = false) (h18 : (s.toList == [109, 97, 116, 99, 104]) = false) (h19 : (s.toList == [109, 111, 100, 117, 108, 101]) = false) (h20 : (s.toList == [110, 111, 110, 101]) = false) (h21 : (s.toList == [110, 111, 116]) = false) (h22 : (s.toList == [111, 114]) = false) (h23 : (s.toList == [116, 101, 120, 116]) = false) (h24 : (s.toList == [116, 104, 101, 110]) = false) (h25 : (s.toList == [116, 114, 117, 101]) = false) (h26 : (s.toList == [116, 121, 112, 101]) = false) (h27 : (s.toList == [117, 115, 101]) = true) :
    Calls Tryz.prog 196 #[.string s] w fun e w' => e = .returned (.bool true) ∧ w' = w := by
  go_enter Tryz.func196, Tryz.ntmps196
  go_wp2_with fail
  go_ret
  exact ⟨rfl, rfl⟩
theorem kw_none (s : ByteArray) (w : World) (h0 : (s.toList == [97, 110, 100]) = false) (h1 : (s.toList == [97, 110, 121]) = false) (h2 : (s.toList == [97, 115]) = false) (h3 : (s.toList == [98, 111, 111, 108]) = false) (h4 : (s.toList == [100, 101, 112, 114, 101, 99, 97, 116, 101, 100]) = false) (h5 : (s.toList == [101, 108, 115, 101]) = false) (h6 : (s.toList == [101, 120, 112, 111, 114, 116]) = false) (h7 : (s.toList == [102, 97, 108, 115, 101]) = false) (h8 : (s.toList == [102, 110]) = false) (h9 : (s.toList == [102, 111, 108, 100]) = false) (h10 : (s.toList == [102, 114, 111, 109]) = false) (h11 : (s.toList == [105, 102]) = false) (h12 : (s.toList == [105, 109, 112, 111, 114, 116]) = false) (h13 : (s.toList == [105, 110]) = false) (h14 : (s.toList == [105, 110, 116]) = false) (h15 : (s.toList == [108, 101, 110, 103, 116, 104]) = false) (h16 : (s.toList == [108, 101, 116]) = false) (h17 : (s.toList == [108, 105, 115, 116]) = false) (h18 : (s.toList == [109, 97, 116, 99, 104]) = false) (h19 : (s.toList == [109, 111, 100, 117, 108, 101]) = false) (h20 : (s.toList == [110, 111, 110, 101]) = false) (h21 : (s.toList == [110, 111, 116]) = false) (h22 : (s.toList == [111, 114]) = false) (h23 : (s.toList == [116, 101, 120, 116]) = false) (h24 : (s.toList == [116, 104, 101, 110]) = false) (h25 : (s.toList == [116, 114, 117, 101]) = false) (h26 : (s.toList == [116, 121, 112, 101]) = false) (h27 : (s.toList == [117, 115, 101]) = false) :
    Calls Tryz.prog 196 #[.string s] w fun e w' => e = .returned (.bool false) ∧ w' = w := by
  go_enter Tryz.func196, Tryz.ntmps196
  go_wp2_with fail
  go_ret
  exact ⟨rfl, rfl⟩
theorem keyword_any (s : ByteArray) (w : World) :
    Calls Tryz.prog 196 #[.string s] w fun e w' => e = .returned (.bool (isKw s.data.toList)) ∧ w' = w := by
  have e0 : s.data.toList = s.toList := (ByteArray.toList_eq s).symm
  rw [e0]
  cases h0 : (s.toList == [97, 110, 100]) with
  | true =>
    have hk : isKw s.toList = true := by
      have e : s.toList = [97, 110, 100] := eq_of_beq h0
      rw [e]; decide +kernel
    rw [hk]
    exact kw_0 s w h0
  | false =>
  cases h1 : (s.toList == [97, 110, 121]) with
  | true =>
    have hk : isKw s.toList = true := by
      have e : s.toList = [97, 110, 121] := eq_of_beq h1
      rw [e]; decide +kernel
    rw [hk]
    exact kw_1 s w h0 h1
  | false =>
  cases h2 : (s.toList == [97, 115]) with
  | true =>
    have hk : isKw s.toList = true := by
      have e : s.toList = [97, 115] := eq_of_beq h2
      rw [e]; decide +kernel
    rw [hk]
    exact kw_2 s w h0 h1 h2
  | false =>
  cases h3 : (s.toList == [98, 111, 111, 108]) with
  | true =>
    have hk : isKw s.toList = true := by
      have e : s.toList = [98, 111, 111, 108] := eq_of_beq h3
      rw [e]; decide +kernel
    rw [hk]
    exact kw_3 s w h0 h1 h2 h3
  | false =>
  cases h4 : (s.toList == [100, 101, 112, 114, 101, 99, 97, 116, 101, 100]) with
  | true =>
    have hk : isKw s.toList = true := by
      have e : s.toList = [100, 101, 112, 114, 101, 99, 97, 116, 101, 100] := eq_of_beq h4
      rw [e]; decide +kernel
    rw [hk]
    exact kw_4 s w h0 h1 h2 h3 h4
  | false =>
  cases h5 : (s.toList == [101, 108, 115, 101]) with
  | true =>
    have hk : isKw s.toList = true := by
      have e : s.toList = [101, 108, 115, 101] := eq_of_beq h5
      rw [e]; decide +kernel
    rw [hk]
    exact kw_5 s w h0 h1 h2 h3 h4 h5
  | false =>
  cases h6 : (s.toList == [101, 120, 112, 111, 114, 116]) with
  | true =>
    have hk : isKw s.toList = true := by
      have e : s.toList = [101, 120, 112, 111, 114, 116] := eq_of_beq h6
      rw [e]; decide +kernel
    rw [hk]
    exact kw_6 s w h0 h1 h2 h3 h4 h5 h6
  | false =>
  cases h7 : (s.toList == [102, 97, 108, 115, 101]) with
  | true =>
    have hk : isKw s.toList = true := by
      have e : s.toList = [102, 97, 108, 115, 101] := eq_of_beq h7
      rw [e]; decide +kernel
    rw [hk]
    exact kw_7 s w h0 h1 h2 h3 h4 h5 h6 h7
  | false =>
  cases h8 : (s.toList == [102, 110]) with
  | true =>
    have hk : isKw s.toList = true := by
      have e : s.toList = [102, 110] := eq_of_beq h8
      rw [e]; decide +kernel
    rw [hk]
    exact kw_8 s w h0 h1 h2 h3 h4 h5 h6 h7 h8
  | false =>
  cases h9 : (s.toList == [102, 111, 108, 100]) with
  | true =>
    have hk : isKw s.toList = true := by
      have e : s.toList = [102, 111, 108, 100] := eq_of_beq h9
      rw [e]; decide +kernel
    rw [hk]
    exact kw_9 s w h0 h1 h2 h3 h4 h5 h6 h7 h8 h9
  | false =>
  cases h10 : (s.toList == [102, 114, 111, 109]) with
  | true =>
    have hk : isKw s.toList = true := by
      have e : s.toList = [102, 114, 111, 109] := eq_of_beq h10
      rw [e]; decide +kernel
    rw [hk]
    exact kw_10 s w h0 h1 h2 h3 h4 h5 h6 h7 h8 h9 h10
  | false =>
  cases h11 : (s.toList == [105, 102]) with
  | true =>
    have hk : isKw s.toList = true := by
      have e : s.toList = [105, 102] := eq_of_beq h11
      rw [e]; decide +kernel
    rw [hk]
    exact kw_11 s w h0 h1 h2 h3 h4 h5 h6 h7 h8 h9 h10 h11
  | false =>
  cases h12 : (s.toList == [105, 109, 112, 111, 114, 116]) with
  | true =>
    have hk : isKw s.toList = true := by
      have e : s.toList = [105, 109, 112, 111, 114, 116] := eq_of_beq h12
      rw [e]; decide +kernel
    rw [hk]
    exact kw_12 s w h0 h1 h2 h3 h4 h5 h6 h7 h8 h9 h10 h11 h12
  | false =>
  cases h13 : (s.toList == [105, 110]) with
  | true =>
    have hk : isKw s.toList = true := by
      have e : s.toList = [105, 110] := eq_of_beq h13
      rw [e]; decide +kernel
    rw [hk]
    exact kw_13 s w h0 h1 h2 h3 h4 h5 h6 h7 h8 h9 h10 h11 h12 h13
  | false =>
  cases h14 : (s.toList == [105, 110, 116]) with
  | true =>
    have hk : isKw s.toList = true := by
      have e : s.toList = [105, 110, 116] := eq_of_beq h14
      rw [e]; decide +kernel
    rw [hk]
    exact kw_14 s w h0 h1 h2 h3 h4 h5 h6 h7 h8 h9 h10 h11 h12 h13 h14
  | false =>
  cases h15 : (s.toList == [108, 101, 110, 103, 116, 104]) with
  | true =>
    have hk : isKw s.toList = true := by
      have e : s.toList = [108, 101, 110, 103, 116, 104] := eq_of_beq h15
      rw [e]; decide +kernel
    rw [hk]
    exact kw_15 s w h0 h1 h2 h3 h4 h5 h6 h7 h8 h9 h10 h11 h12 h13 h14 h15
  | false =>
  cases h16 : (s.toList == [108, 101, 116]) with
  | true =>
    have hk : isKw s.toList = true := by
      have e : s.toList = [108, 101, 116] := eq_of_beq h16
      rw [e]; decide +kernel
    rw [hk]
    exact kw_16 s w h0 h1 h2 h3 h4 h5 h6 h7 h8 h9 h10 h11 h12 h13 h14 h15 h16
  | false =>
  cases h17 : (s.toList == [108, 105, 115, 116]) with
  | true =>
    have hk : isKw s.toList = true := by
      have e : s.toList = [108, 105, 115, 116] := eq_of_beq h17
      rw [e]; decide +kernel
    rw [hk]
    exact kw_17 s w h0 h1 h2 h3 h4 h5 h6 h7 h8 h9 h10 h11 h12 h13 h14 h15 h16 h17
  | false =>
  cases h18 : (s.toList == [109, 97, 116, 99, 104]) with
  | true =>
    have hk : isKw s.toList = true := by
      have e : s.toList = [109, 97, 116, 99, 104] := eq_of_beq h18
      rw [e]; decide +kernel
    rw [hk]
    exact kw_18 s w h0 h1 h2 h3 h4 h5 h6 h7 h8 h9 h10 h11 h12 h13 h14 h15 h16 h17 h18
  | false =>
  cases h19 : (s.toList == [109, 111, 100, 117, 108, 101]) with
  | true =>
    have hk : isKw s.toList = true := by
      have e : s.toList = [109, 111, 100, 117, 108, 101] := eq_of_beq h19
      rw [e]; decide +kernel
    rw [hk]
    exact kw_19 s w h0 h1 h2 h3 h4 h5 h6 h7 h8 h9 h10 h11 h12 h13 h14 h15 h16 h17 h18 h19
  | false =>
  cases h20 : (s.toList == [110, 111, 110, 101]) with
  | true =>
    have hk : isKw s.toList = true := by
      have e : s.toList = [110, 111, 110, 101] := eq_of_beq h20
      rw [e]; decide +kernel
    rw [hk]
    exact kw_20 s w h0 h1 h2 h3 h4 h5 h6 h7 h8 h9 h10 h11 h12 h13 h14 h15 h16 h17 h18 h19 h20
  | false =>
  cases h21 : (s.toList == [110, 111, 116]) with
  | true =>
    have hk : isKw s.toList = true := by
      have e : s.toList = [110, 111, 116] := eq_of_beq h21
      rw [e]; decide +kernel
    rw [hk]
    exact kw_21 s w h0 h1 h2 h3 h4 h5 h6 h7 h8 h9 h10 h11 h12 h13 h14 h15 h16 h17 h18 h19 h20 h21
  | false =>
  cases h22 : (s.toList == [111, 114]) with
  | true =>
    have hk : isKw s.toList = true := by
      have e : s.toList = [111, 114] := eq_of_beq h22
      rw [e]; decide +kernel
    rw [hk]
    exact kw_22 s w h0 h1 h2 h3 h4 h5 h6 h7 h8 h9 h10 h11 h12 h13 h14 h15 h16 h17 h18 h19 h20 h21 h22
  | false =>
  cases h23 : (s.toList == [116, 101, 120, 116]) with
  | true =>
    have hk : isKw s.toList = true := by
      have e : s.toList = [116, 101, 120, 116] := eq_of_beq h23
      rw [e]; decide +kernel
    rw [hk]
    exact kw_23 s w h0 h1 h2 h3 h4 h5 h6 h7 h8 h9 h10 h11 h12 h13 h14 h15 h16 h17 h18 h19 h20 h21 h22 h23
  | false =>
  cases h24 : (s.toList == [116, 104, 101, 110]) with
  | true =>
    have hk : isKw s.toList = true := by
      have e : s.toList = [116, 104, 101, 110] := eq_of_beq h24
      rw [e]; decide +kernel
    rw [hk]
    exact kw_24 s w h0 h1 h2 h3 h4 h5 h6 h7 h8 h9 h10 h11 h12 h13 h14 h15 h16 h17 h18 h19 h20 h21 h22 h23 h24
  | false =>
  cases h25 : (s.toList == [116, 114, 117, 101]) with
  | true =>
    have hk : isKw s.toList = true := by
      have e : s.toList = [116, 114, 117, 101] := eq_of_beq h25
      rw [e]; decide +kernel
    rw [hk]
    exact kw_25 s w h0 h1 h2 h3 h4 h5 h6 h7 h8 h9 h10 h11 h12 h13 h14 h15 h16 h17 h18 h19 h20 h21 h22 h23 h24 h25
  | false =>
  cases h26 : (s.toList == [116, 121, 112, 101]) with
  | true =>
    have hk : isKw s.toList = true := by
      have e : s.toList = [116, 121, 112, 101] := eq_of_beq h26
      rw [e]; decide +kernel
    rw [hk]
    exact kw_26 s w h0 h1 h2 h3 h4 h5 h6 h7 h8 h9 h10 h11 h12 h13 h14 h15 h16 h17 h18 h19 h20 h21 h22 h23 h24 h25 h26
  | false =>
  cases h27 : (s.toList == [117, 115, 101]) with
  | true =>
    have hk : isKw s.toList = true := by
      have e : s.toList = [117, 115, 101] := eq_of_beq h27
      rw [e]; decide +kernel
    rw [hk]
    exact kw_27 s w h0 h1 h2 h3 h4 h5 h6 h7 h8 h9 h10 h11 h12 h13 h14 h15 h16 h17 h18 h19 h20 h21 h22 h23 h24 h25 h26 h27
  | false =>
  have hk : isKw s.toList = false := by
    unfold isKw kwL
    simp only [List.contains_cons, h0, h1, h2, h3, h4, h5, h6, h7, h8, h9, h10, h11, h12, h13, h14, h15, h16, h17, h18, h19, h20, h21, h22, h23, h24, h25, h26, h27, List.contains_nil, Bool.or_false]
  rw [hk]
  exact kw_none s w h0 h1 h2 h3 h4 h5 h6 h7 h8 h9 h10 h11 h12 h13 h14 h15 h16 h17 h18 h19 h20 h21 h22 h23 h24 h25 h26 h27
end Go.Proofs.YtjedcijddlilaaaGreatDoor
