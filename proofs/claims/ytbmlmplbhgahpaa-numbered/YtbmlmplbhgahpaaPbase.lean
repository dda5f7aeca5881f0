import Derived.Test.YtbmlmplbhgahpaaOpen
namespace Go.Proofs.Ytbmlmplbhgahpaa

theorem Try.own : ownKnob Try.prog.godebug = none := by kernel_rfl
theorem Try.laidOut : laidOutB Try.prog = true := by kernel_rfl

end Go.Proofs.Ytbmlmplbhgahpaa
