package parse

import "orrery/api"

// kidsRight tells whether a node's Kids are of the kinds that its own asks for.
func kidsRight(t api.Tree) bool {
	switch t.Kind {
	case api.DFile:
		return each(t.Kids, isDeclaration)
	case api.DClass:
		return each(t.Kids, isItem)
	case api.IPart:
		return each(t.Kids, isModifier)
	case api.IFor:
		return each(t.Kids, isRule)
	case api.ERef:
		return len(t.Kids) > 0 && each(t.Kids, isElement)
	case api.DUnit, api.DType:
		return len(t.Kids) == 0 || inOrder(t.Kids, isDimension)
	case api.EPart:
		return len(t.Kids) == 0 || inOrder(t.Kids, isIndex)
	case api.IParam:
		return inOrder(t.Kids, isType, isExpression)
	case api.IVar:
		return inOrder(t.Kids, isType)
	case api.IStart:
		return inOrder(t.Kids, isStarted, isExpression, isExpression)
	case api.IConnect:
		return inOrder(t.Kids, isReference, isReference)
	case api.EDer:
		return inOrder(t.Kids, isReference)
	case api.IEquation, api.EAdd, api.ESub, api.EMul, api.EDiv:
		return inOrder(t.Kids, isExpression, isExpression)
	case api.IMod, api.ECall, api.ENeg, api.EPow:
		return inOrder(t.Kids, isExpression)
	case api.UMul, api.UDiv:
		return inOrder(t.Kids, isDimension, isDimension)
	case api.UPow:
		return inOrder(t.Kids, isDimension)
	}
	return len(t.Kids) == 0 // of the kinds that are left, as ENum
}

func each(kids []api.Tree, is func(t api.Tree) bool) bool {
	for _, kid := range kids {
		if !is(kid) {
			return false
		}
	}
	return true
}

// inOrder tells whether there are as many as are asked for, each as is asked for at its place.
func inOrder(kids []api.Tree, are ...func(t api.Tree) bool) bool {
	if len(kids) != len(are) {
		return false
	}
	for i, is := range are {
		if !is(kids[i]) {
			return false
		}
	}
	return true
}

func isDeclaration(t api.Tree) bool { return t.Kind == api.DUnit || t.Kind == api.DClass }

func isItem(t api.Tree) bool { return api.IParam <= t.Kind && t.Kind <= api.IFor && !isModifier(t) }

func isModifier(t api.Tree) bool { return t.Kind == api.IMod }

func isRule(t api.Tree) bool { return api.IConnect <= t.Kind && t.Kind <= api.IFor }

func isType(t api.Tree) bool { return t.Kind == api.DType }

func isDimension(t api.Tree) bool { return api.UOne <= t.Kind && t.Kind <= api.UPow }

func isExpression(t api.Tree) bool {
	return api.ENum <= t.Kind && t.Kind <= api.EPow && !isElement(t)
}

func isElement(t api.Tree) bool { return t.Kind == api.EPart }

func isReference(t api.Tree) bool { return t.Kind == api.ERef }

func isStarted(t api.Tree) bool { return t.Kind == api.ERef || t.Kind == api.EDer }

// isIndex looks at Kids, too: their fields are looked at when these are gone through.
func isIndex(t api.Tree) bool {
	if t.Kind == api.EAdd || t.Kind == api.ESub {
		return inOrder(t.Kids, isLoopVariable, isPlace)
	}
	return isLoopVariable(t) || isPlace(t)
}

func isLoopVariable(t api.Tree) bool {
	return isReference(t) && len(t.Kids) == 1 && len(t.Kids[0].Kids) == 0
}

func isPlace(t api.Tree) bool { return t.Kind == api.ENum && t.Num.D == 1 && t.Num.N <= maxCount }
