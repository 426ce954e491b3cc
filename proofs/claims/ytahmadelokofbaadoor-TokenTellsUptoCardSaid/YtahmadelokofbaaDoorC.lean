/- PROVED here: contracts of Kept and isSign. No condition but those in each theorem's own head. -/
import Derived.Test.YtahmadelokofbaaDoorB
namespace Go.Proofs.YtahmadelokofbaaDoor
open Go Go.RowKit

def keptB (l : List UInt8) : Bool := l == [118, 97, 114] || l == [112, 114, 111, 99] || l == [105, 110, 116] || l == [98, 111, 111, 108] || l == [97, 114, 114] || l == [102, 117, 110] || l == [105, 110] || l == [111, 117, 116] || l == [105, 102] || l == [101, 108, 115, 101] || l == [119, 104, 105, 108, 101] || l == [99, 97, 108, 108] || l == [114, 101, 116, 117, 114, 110] || l == [116, 104, 114, 111, 119] || l == [116, 114, 121] || l == [99, 97, 116, 99, 104] || l == [110, 101, 119] || l == [108, 101, 110] || l == [116, 114, 117, 101] || l == [102, 97, 108, 115, 101]
def signB (l : List UInt8) : Bool := l == [40] || l == [41] || l == [123] || l == [125] || l == [91] || l == [93] || l == [44] || l == [59] || l == [61] || l == [61, 61] || l == [33, 61] || l == [60] || l == [60, 61] || l == [62] || l == [62, 61] || l == [43] || l == [45] || l == [42] || l == [47] || l == [37] || l == [33] || l == [38, 38] || l == [124, 124] || l == [38]
set_option maxHeartbeats 2000000 in
theorem kept_any (s : ByteArray) (w : World) : Calls Tryd.prog 16 #[.string s] w fun e w' => e = .returned (.bool (keptB s.toList)) ∧ w = w' := by
  go_enter Tryd.func16, Tryd.ntmps16
  go_wp2
  all_goals
    first
    | (exfalso; simp_all only [Bool.false_eq_true]; done)
    | (go_ret; exact ⟨ret_bool (by simp only [keptB, *, Bool.true_or, Bool.or_true, Bool.or_self]), rfl⟩)
set_option maxHeartbeats 2000000 in
theorem sign_any (s : ByteArray) (w : World) : Calls Tryd.prog 38 #[.string s] w fun e w' => e = .returned (.bool (signB s.toList)) ∧ w = w' := by
  go_enter Tryd.func38, Tryd.ntmps38
  go_wp2
  all_goals
    first
    | (exfalso; simp_all only [Bool.false_eq_true]; done)
    | (go_ret; exact ⟨ret_bool (by simp only [signB, *, Bool.true_or, Bool.or_true, Bool.or_self]), rfl⟩)
end Go.Proofs.YtahmadelokofbaaDoor
