package check

import "orrery/api"

// constantOver says of an expression, why it isn't constant over these parameters: the first of its nodes tells.
func constantOver(params names) why {
	return throughNodes(func(node api.Tree) api.Errno {
		switch node.Kind {
		case api.ENum, api.ENeg, api.EAdd, api.ESub, api.EMul, api.EDiv, api.EPow:
			return api.OK
		case api.ERef:
			return referenceTo(params, node)
		}
		return api.ErrClass
	})
}

// throughNodes hands an expression's nodes on, each ahead of its Kids. A reference is handed on whole.
func throughNodes(says why) why {
	var through why
	through = func(node api.Tree) api.Errno {
		if err := says(node); err != api.OK || node.Kind == api.ERef {
			return err
		}
		return within(node.Kids, through)
	}
	return through
}

func referenceTo(params names, ref api.Tree) api.Errno {
	if len(ref.Kids) != 1 || len(ref.Kids[0].Kids) != 0 {
		return api.ErrName
	}
	return namedAsOneOf(params)(ref.Kids[0])
}
