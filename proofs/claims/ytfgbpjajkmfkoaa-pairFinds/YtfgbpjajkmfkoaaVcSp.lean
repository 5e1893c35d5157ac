/-
  Rows as what is appended; what the dump says of specials.
-/
import Derived.Test.YtfgbpjajkmfkoaaVcMathB
import Derived.Test.YtfgbpjajkmfkoaaVcW10
namespace Go.Proofs.Ytfgbpjajkmfkoaa
open Go.RowKit
set_option linter.unusedVariables false

theorem Rw.src {w : World} {a : Option Addr} {n cap : Nat} {xs : List (ByteArray × Int)} (h : Rw w a n cap xs) : Src w a n cap 2 (rv xs) :=
  ⟨by rw [rv_length, h.len], rv_one xs, h.nil, fun ad ha j u hu => by
    obtain ⟨i, hi, hc⟩ := rv_inv hu
    have hn : i < n := by rw [← h.len]; exact hi
    obtain ⟨b, off, hab, _, hcell⟩ := h.at' (by omega)
    rw [ha] at hab
    cases hab
    rw [Addr.add_lit]
    rcases hc with ⟨rfl, rfl⟩ | ⟨rfl, rfl⟩
    · exact (hcell i hn).1
    · have := (hcell i hn).2
      rwa [Nat.add_assoc] at this⟩

theorem Try.infoSp : (Try.prog.info? 55).map (fun i => (i.zero, i.size, i.bytes)) = some (some (.agg #[.string ⟨#[]⟩, .int .i64 0]), 2, 24) := by kernel_rfl
theorem nlt_ntrans {a b c : ByteArray} (h : ¬ Vc.NLt a b) (k : ¬ Vc.NLt b c) : ¬ Vc.NLt a c := by
  intro hac
  by_cases hba : Vc.NLt b a
  · exact k (nlt_trans hba hac)
  · obtain rfl := Vc.nlt_total h hba
    exact k hac
theorem ahead_ntrans {a b c : Mg4} (h : ¬ Vc.Ahead a b) (k : ¬ Vc.Ahead b c) : ¬ Vc.Ahead a c := by unfold Vc.Ahead at *; omega
theorem Try.infoMg : (Try.prog.info? 34).map (fun i => (i.zero, i.size, i.bytes)) = some (some (.agg #[.int .i64 0, .int .i64 0, .int .i64 0, .int .i64 0]), 4, 32) := by kernel_rfl
end Go.Proofs.Ytfgbpjajkmfkoaa
