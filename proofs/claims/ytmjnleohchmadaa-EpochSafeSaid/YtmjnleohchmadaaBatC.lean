/- Joined: BatC. -/
import Derived.Test.YtmjnleohchmadaaJBatA
import Derived.Test.YtmjnleohchmadaaJOct
/- A batch's cells, in a row of structs. -/
namespace Go.Proofs.Ytmjnleohchmadaa.Bat
open Go.RowKit Go.Proofs.Ytmjnleohchmadaa.Oct Go.Proofs.Ytmjnleohchmadaa.Rec Go.Proofs.Ytmjnleohchmadaa.Crc Go.Proofs.Ytmjnleohchmadaa.Lay Go.Proofs.Ytmjnleohchmadaa.RowF

def batC (x : Bt × Option Addr × Nat × Nat) : List Value := [.int .i64 x.1.base, .int .i64 x.1.last, .int .i64 x.1.frm, .int .i64 x.1.epoch, .int .i64 x.1.pid, .int .i64 x.1.gen, .int .i64 x.1.seq, .bool x.1.txn, .int .i64 x.1.ctl, .slice x.2.1 x.2.2.1 x.2.2.2]
theorem batS : Shape batC 10 := ⟨fun _ => rfl, fun x u hu => by
  simp only [batC, List.mem_cons, List.not_mem_nil, or_false] at hu
  rcases hu with rfl | rfl | rfl | rfl | rfl | rfl | rfl | rfl | rfl | rfl <;> rfl, by decide⟩
theorem batInfo : Info Try.prog 46 10 96 := by
  have h : (Try.prog.info? 46).map (fun i => (i.zero, i.size, i.bytes)) = some (some (.agg #[.int .i64 0, .int .i64 0, .int .i64 0, .int .i64 0, .int .i64 0, .int .i64 0, .int .i64 0, .bool false, .int .i64 0, .slice none 0 0]), 10, 96) := by kernel_rfl
  obtain ⟨i, hi, hz, hs, hb⟩ := info_parts h
  exact ⟨i, _, hi, hz, hs, hb, rfl⟩
end Go.Proofs.Ytmjnleohchmadaa.Bat
