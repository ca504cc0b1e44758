/- What Parse accepts is the text that Print gives. -/
import Derived.Test.YtcpiiafnifkahaaParseGo
namespace Mid
theorem parse_zero (s : List UInt8) (v : List Nat) (a b : Nat) (h : parse s = (v, a, b)) (hb : b = 0) : printL v = s := by
  unfold parse at h
  split at h
  · injection h with _ h; injection h with _ h; omega
  · rename_i hn
    split at h
    · injection h with _ h; injection h with _ h; omega
    · split at h
      · injection h with _ h; injection h with _ h; omega
      · injection h with h _
        rw [← h]
        exact print_id s (by omega) hn
end Mid
