package check

import "litmus/api"

// mayBe tells whether an instruction may stand in a test.
func mayBe(x api.Instr) bool {
	switch x.Op {
	case api.Store:
		return isLoc(x.Loc) && x.Reg == 0 && isVal(x.Val) && isWriteMode(x.Mode)
	case api.Copy:
		return isLoc(x.Loc) && isReg(x.Reg) && x.Val == 0 && isWriteMode(x.Mode)
	case api.Load:
		return isLoc(x.Loc) && isReg(x.Reg) && x.Val == 0 && isReadMode(x.Mode)
	case api.Swap:
		return isLoc(x.Loc) && isReg(x.Reg) && isVal(x.Val) && (isReadMode(x.Mode) || isWriteMode(x.Mode))
	case api.Fence:
		return x.Loc == 0 && x.Reg == 0 && x.Val == 0 && isFenceMode(x.Mode)
	case api.Enter, api.Leave, api.Sync:
		return x.Loc == 0 && x.Reg == 0 && x.Val == 0 && x.Mode == 0
	}
	return false
}

// mayBeAsked tells whether an atom may stand in the condition of a test of so many threads.
func mayBeAsked(a api.Atom, threads int) bool {
	if !isVal(a.Val) {
		return false
	}
	if a.Thread == -1 {
		return isLoc(a.At)
	}
	return a.Thread >= 0 && a.Thread < threads && isReg(a.At)
}

func isLoc(n int) bool { return n >= 0 && n < api.MaxLocs }

func isReg(n int) bool { return n >= 0 && n < api.MaxRegs }

func isVal(n int) bool { return n >= 0 && n <= api.MaxVal }

func isReadMode(n int) bool { return n == api.Plain || n == api.Acquire }

func isWriteMode(n int) bool { return n == api.Plain || n == api.Release }

func isFenceMode(n int) bool { return n == api.Full || n == api.Loads || n == api.Stores }
