package table

import (
	"slices"
	"strings"

	"tumbrel/api"
	"tumbrel/expr"
)

// numberOf is the number of the first variable of that name: -1 if there is none.
func numberOf(vars []api.Var, name string) int {
	return slices.IndexFunc(vars, func(v api.Var) bool { return v.Name == name })
}

// codeOf is the code of an expression that is formed, and whose Refs are all variables'.
func codeOf(e expr.Expr, vars []api.Var) []Instr {
	switch x := e.(type) {
	case expr.Lit:
		return []Instr{{"push", x.N}}
	case expr.Ref:
		return []Instr{{"load", int64(numberOf(vars, x.Name))}}
	case expr.Not:
		return append(codeOf(x.X, vars), Instr{Op: "not"})
	case expr.Neg:
		return append(codeOf(x.X, vars), Instr{Op: "neg"})
	case expr.Bin:
		return binCode(x.Op, codeOf(x.L, vars), codeOf(x.R, vars))
	}
	return nil
}

// binCode is the code of an operator, given that of its sides, in memory of our own.
func binCode(op string, left, right []Instr) []Instr {
	switch op {
	case "&&":
		return jumping("and", left, right)
	case "||":
		return jumping("or", left, right)
	}
	return append(append(left, right...), Instr{Op: strings.Clone(op)})
}

// jumping is code that asks the right side only where the left one hasn't told the value already.
func jumping(jump string, left, right []Instr) []Instr {
	right = append(right, Instr{Op: "bool"})
	return append(append(left, Instr{jump, int64(len(right))}), right...)
}
