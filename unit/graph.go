package unit

import (
	"orrery/api"
	"orrery/rat"
)

// graphRight tells whether a graph may be.
func graphRight(nodes []api.Node) bool {
	if len(nodes) > api.MaxNodes {
		return false
	}
	for i, n := range nodes {
		if !isKind(n.Kind) || !fieldsRight(n) {
			return false
		}
		for _, operand := range operands(n) {
			if !isBelow(operand, i) {
				return false
			}
		}
	}
	return true
}

func isKind(kind int) bool { return api.TConst <= kind && kind <= api.TTime }

// operands are those of A and B that a node's kind needs.
func operands(n api.Node) []int {
	switch n.Kind {
	case api.TConst, api.TVar, api.TTime:
		return nil
	case api.TAdd, api.TSub, api.TMul, api.TDiv:
		return []int{n.A, n.B}
	}
	return []int{n.A}
}

// fieldsRight tells whether what a node's kind needs is as it must be, but for A and B.
func fieldsRight(n api.Node) bool {
	switch n.Kind {
	case api.TConst:
		return rat.Right(n.Num) && Right(n.Dim)
	case api.TVar:
		return n.Key.V >= 0 && 0 <= n.Key.K && n.Key.K <= api.MaxDiff
	case api.TPow:
		return -api.MaxPower <= n.N && n.N <= api.MaxPower
	}
	return true
}

func isBelow(n, end int) bool { return 0 <= n && n < end }

func allBelow(numbers []int, end int) bool {
	for _, n := range numbers {
		if !isBelow(n, end) {
			return false
		}
	}
	return true
}

// neededBy tells of each node whether some equation needs it.
func neededBy(eqs []int, nodes []api.Node) []bool {
	needed := make([]bool, len(nodes))
	for _, eq := range eqs {
		needed[eq] = true
	}
	for i := len(nodes) - 1; i >= 0; i-- {
		if !needed[i] {
			continue
		}
		for _, operand := range operands(nodes[i]) {
			needed[operand] = true
		}
	}
	return needed
}

// isFree tells whether a node fits whatever stands beside it: a nought.
func isFree(n api.Node) bool { return n.Kind == api.TConst && n.Num == whole(0) }
