/- What aligned of dec returns: two decimals at one place for both. -/
import Derived.Test.YtjobccgpejbchaaDoorDecM
namespace Go.Proofs.YtjobccgpejbchaaDoor
open Go.RowKit Florin
set_option linter.unusedVariables false

theorem ret_al {a b c d : List UInt8} {m : Int} : Ending.returned (.tuple #[.string ((⟨a.toArray⟩ : ByteArray) ++ (⟨b.toArray⟩ : ByteArray)), .string ((⟨c.toArray⟩ : ByteArray) ++ (⟨d.toArray⟩ : ByteArray)), .int .i64 m]) = .returned (.tuple #[S (a ++ b), S (c ++ d), .int .i64 m]) := by rw [arr_append, arr_append]

end Go.Proofs.YtjobccgpejbchaaDoor
