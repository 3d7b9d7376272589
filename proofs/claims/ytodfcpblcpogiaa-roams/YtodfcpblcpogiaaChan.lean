/-
  The links' channels: Send, Take.
-/
import Derived.Test.YtodfcpblcpogiaaMem
namespace Go.Proofs.Ytodfcpblcpogiaa
open Go.Conc Go.RowKit

set_option maxRecDepth 100000 in
set_option maxHeartbeats 400000 in
theorem send_any (b r cap s t x y : Nat) (buf : Array Value) (v : Value) (w : World) (hx : x < 6) (hy : y < 6) (hc : w.cell? ⟨b, 2 + x * 6 + y, none⟩ = some (.chan (some r)))
    (hr : w.heap[r]? = some (.chan cap buf false s t false)) (hroom : buf.size < cap) :
    Calls Try.prog 93 #[.pointer (some ⟨b, 2, none⟩), int x, int y, v] w fun e w' => e = .returned (.tuple #[]) ∧ w' = w.setChan r cap (buf.push v) false (s + 1) t false := by
  refine calls_of_loneTo fun cs => ?_
  have e : Frame.enter Try.prog 93 #[.pointer (some ⟨b, 2, none⟩), int x, int y, v] .normal = (base 93).at ⟨#[.pointer (some ⟨b, 2, none⟩), int x, int y, v, undef, undef, undef, undef, undef, undef, undef, undef, undef, undef, undef, undef, undef], []⟩ [.code (Try.f93.body.getD .skip)] := by
    simp [Frame.enter, Frame.at, Try.func93, base, Try.f93]
  rw [e]
  have hx' : (x : Int) < 6 := by omega
  have hy' : (y : Int) < 6 := by omega
  refine LoneTo.goes (n := 11) ?_
  simp only [Try.f93, Option.getD_some]
  s_reg
  s_op
  s_op
  s_op
  s_op
  s_op
  s_op
  s_op
  s_op
  s_op
  s_stop
  refine LoneTo.step (step_lone_send_room (c := r) (cap := cap) (buf := buf) (s := s) (r := t) (tm := false) (stepG_comm (cases := #[scase r v (.tuple #[])]) (blocking := true) (shape := .send) (w' := w) rfl rfl (by decide) (by simp [execOp, scase, Act.eval])) hr hroom) ?_
  rw [Frame.finish_at]
  walk_nrm
  refine LoneTo.goes (n := 3) ?_
  s_c stepG_region_end
  s_c stepG_end
  s_stop
  exact LoneTo.done ⟨.returned (.tuple #[]), _, rfl, ⟨rfl, rfl⟩, rfl, rfl, rfl, rfl, _, Try.func93, by simp [results, Try.f93, Frame.at]⟩

set_option maxRecDepth 100000 in
set_option maxHeartbeats 400000 in
theorem take_some (b r cap s t x y : Nat) (buf : Array Value) (w : World) (hx : x < 6) (hy : y < 6) (hc : w.cell? ⟨b, 2 + x * 6 + y, none⟩ = some (.chan (some r)))
    (hr : w.heap[r]? = some (.chan cap buf false s t false)) (hsome : 0 < buf.size) :
    Calls Try.prog 63 #[.pointer (some ⟨b, 2, none⟩), int x, int y] w fun e w' => e = .returned (.tuple #[buf.getD 0 undef, .bool true]) ∧ w' = w.setChan r cap (buf.extract 1 buf.size) false s (t + 1) false := by
  refine calls_of_loneTo fun cs => ?_
  have e : Frame.enter Try.prog 63 #[.pointer (some ⟨b, 2, none⟩), int x, int y] .normal = (base 63).at ⟨#[.pointer (some ⟨b, 2, none⟩), int x, int y, undef, undef, undef, undef, undef, undef, undef, undef, undef, undef, undef, undef, undef, undef, undef, undef, undef, undef, undef, undef, undef], []⟩ [.code (Try.f63.body.getD .skip)] := by
    simp [Frame.enter, Frame.at, Try.func63, base, Try.f63]
  rw [e]
  have hx' : (x : Int) < 6 := by omega
  have hy' : (y : Int) < 6 := by omega
  refine LoneTo.goes (n := 20) ?_
  simp only [Try.f63, Option.getD_some]
  s_c stepG_seq
  s_reg
  s_op
  s_op
  s_c stepG_region_end
  s_c stepG_seq
  s_reg
  s_op
  s_op
  s_op
  s_op
  s_op
  s_op
  s_op
  s_op
  s_c stepG_region_end
  s_c stepG_seq
  s_reg
  s_stop
  refine LoneTo.step (step_lone_select_recv_buf (c := r) (z := .pointer none) (cap := cap) (buf := buf) (s := s) (r := t) (tm := false) (closed := false) (stepG_comm (cases := #[rcase r (.pointer none)]) (blocking := false) (shape := .select) (w' := w) rfl rfl (by decide) (by simp [go_sem, execOp, rcase, Act.eval])) hr hsome) ?_
  rw [Frame.finish_at]
  walk_nrm
  refine LoneTo.goes (n := 14) ?_
  s_op
  s_op
  s_c stepG_region_end
  s_c stepG_block
  s_cond true
  s_c stepG_seq
  s_reg
  s_op
  s_op
  s_c stepG_region_end
  s_c stepG_seq
  s_reg
  s_op
  s_op
  s_stop
  refine LoneTo.goes (n := 4) ?_
  s_op
  s_c stepG_region_end
  s_c stepG_ret'
  s_stop
  exact LoneTo.done ⟨.returned (.tuple #[buf.getD 0 undef, .bool true]), _, rfl, ⟨by simp, by simp⟩, rfl, rfl, rfl, rfl, _, Try.func63, by simp [results, Try.f63, Frame.at]; rw [Array.getElem?_eq_getElem hsome]; rfl⟩

end Go.Proofs.Ytodfcpblcpogiaa
