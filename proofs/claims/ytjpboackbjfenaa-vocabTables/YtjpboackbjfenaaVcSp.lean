/-
  Rows as what is appended; what the dump says of specials.
-/
import Derived.Test.YtjpboackbjfenaaVcMathB
import Derived.Test.YtjpboackbjfenaaVcW10
namespace Go.Proofs.Ytjpboackbjfenaa
open Go.RowKit
set_option linter.unusedVariables false

theorem Rw.src {w : World} {a : Option Addr} {n cap : Nat} {xs : List (ByteArray × Int)} (h : Rw w a n cap xs) : Src w a n cap 2 (rv xs) :=
  ⟨by rw [rv_length, h.len], rv_one xs, h.nil, fun ad ha j u hu => by
    obtain ⟨i, hi, hc⟩ := rv_inv hu
    have hn : i < n := by rw [← h.len]; exact hi
    obtain ⟨b, off, hab, _, hcell⟩ := h.at' (by omega)
    rw [ha] at hab
    cases hab
    rw [Addr.add_lit]
    rcases hc with ⟨rfl, rfl⟩ | ⟨rfl, rfl⟩
    · exact (hcell i hn).1
    · have := (hcell i hn).2
      rwa [Nat.add_assoc] at this⟩

theorem Try.infoSp : (Try.prog.info? 49).map (fun i => (i.zero, i.size, i.bytes)) = some (some (.agg #[.string ⟨#[]⟩, .int .i64 0]), 2, 24) := by kernel_rfl
end Go.Proofs.Ytjpboackbjfenaa
