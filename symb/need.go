package symb

import "orrery/api"

// operands is how many operands a kind needs: A comes first.
func operands(kind int) int {
	switch kind {
	case api.TConst, api.TVar, api.TTime:
		return 0
	case api.TAdd, api.TSub, api.TMul, api.TDiv:
		return 2
	}
	return 1
}

// neededBy tells of each node whether some root needs it, of whichever list.
func neededBy(nodes []api.Node, lists ...[]int) []bool {
	needed := make([]bool, len(nodes))
	for _, roots := range lists {
		for _, r := range roots {
			needed[r] = true
		}
	}
	for i := len(nodes) - 1; i >= 0; i-- {
		if !needed[i] {
			continue
		}
		n := nodes[i]
		if operands(n.Kind) > 0 {
			needed[n.A] = true
		}
		if operands(n.Kind) > 1 {
			needed[n.B] = true
		}
	}
	return needed
}

// cleared are the nodes that are needed, in order, and the number that each node has among them.
func cleared(nodes []api.Node, needed []bool) ([]api.Node, []int) {
	var left []api.Node
	numbers := make([]int, len(nodes))
	for i, n := range nodes {
		if !needed[i] {
			continue
		}
		numbers[i] = len(left)
		left = append(left, onto(n, numbers))
	}
	return left, numbers
}

// onto is a node with the numbers that its operands have elsewhere. What its kind does not need is zero.
func onto(n api.Node, numbers []int) api.Node {
	to := api.Node{Kind: n.Kind}
	if operands(n.Kind) > 0 {
		to.A = numbers[n.A]
	}
	if operands(n.Kind) > 1 {
		to.B = numbers[n.B]
	}
	switch n.Kind {
	case api.TConst:
		to.Num, to.Dim = n.Num, n.Dim
	case api.TVar:
		to.Key = n.Key
	case api.TPow:
		to.N = n.N
	}
	return to
}
