package interp

import (
	"tumbrel/api"
	"tumbrel/table"
)

// maxCode is how many instructions code has that is run.
const maxCode = 1000

// machine is what instructions work on. All numbers on the stack are from -MaxInt to MaxInt, so that no sum and no product of two wraps round.
type machine struct {
	vars  []int64
	stack []int64
}

// obey does what an instruction says, of which behind others stand behind, and answers how many of those are passed over.
func (m *machine) obey(i table.Instr, behind int) (passed int, no api.Errno) {
	switch i.Op {
	case "push":
		return 0, m.literal(i.N)
	case "load":
		return 0, m.load(i.N)
	case "not", "neg", "bool":
		return 0, m.one(i.Op)
	case "+", "-", "*", "<", "<=", "==", "!=":
		return 0, m.two(i.Op)
	case "and", "or":
		return m.jump(i.Op == "or", i.N, behind)
	}
	return 0, api.ErrForm
}

// literal pushes a number that stands in the code.
func (m *machine) literal(n int64) api.Errno {
	if n < 0 {
		return api.ErrRange
	}
	return m.push(n)
}

// load pushes the number of the variable k.
func (m *machine) load(k int64) api.Errno {
	if k < 0 || k >= int64(len(m.vars)) {
		return api.ErrForm
	}
	return m.push(m.vars[k])
}

// one does an operation of the top.
func (m *machine) one(op string) api.Errno {
	x, no := m.pop()
	if no != api.OK {
		return no
	}
	switch op {
	case "neg":
		return m.push(-x)
	case "not":
		return m.push(truth(x == 0))
	}
	return m.push(truth(x != 0))
}

// two does an operation of the two at the top.
func (m *machine) two(op string) api.Errno {
	right, no := m.pop()
	if no != api.OK {
		return no
	}
	left, no := m.pop()
	if no != api.OK {
		return no
	}
	return m.push(worked(op, left, right))
}

// jump tells how many instructions are passed over: n, if whether the top is not 0 is as when says; then it stays, as 1 or 0.
func (m *machine) jump(when bool, n int64, behind int) (passed int, no api.Errno) {
	// Asked also where nothing is passed over.
	if n < 0 || n > int64(behind) {
		return 0, api.ErrForm
	}
	x, no := m.pop()
	if no != api.OK || (x != 0) != when {
		return 0, no
	}
	return int(n), m.push(truth(when))
}

// push lays a number on the stack, if it is in range.
func (m *machine) push(n int64) api.Errno {
	if outOfRange(n) {
		return api.ErrRange
	}
	m.stack = append(m.stack, n)
	return api.OK
}

// pop takes the top from the stack, if there is one.
func (m *machine) pop() (int64, api.Errno) {
	last := len(m.stack) - 1
	if last < 0 {
		return 0, api.ErrForm
	}
	n := m.stack[last]
	m.stack = m.stack[:last]
	return n, api.OK
}

// worked is the value of an operator of two.
func worked(op string, left, right int64) int64 {
	switch op {
	case "+":
		return left + right
	case "-":
		return left - right
	case "*":
		return left * right
	case "<":
		return truth(left < right)
	case "<=":
		return truth(left <= right)
	case "==":
		return truth(left == right)
	}
	return truth(left != right)
}

// truth is 1 of what is so, else 0.
func truth(is bool) int64 {
	if is {
		return 1
	}
	return 0
}

// outOfRange tells if n can be no variable's number, and no value.
func outOfRange(n int64) bool {
	return n < -api.MaxInt || n > api.MaxInt
}
