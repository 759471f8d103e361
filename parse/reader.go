package parse

import "orrery/api"

const (
	maxOpen  = 60      // of what opens, at once
	maxCount = 1000000 // of ints
)

// reader goes through tokens from the left; each of its methods reads what it is named for, or panics with a stop at the first token that can't stand where it stands.
type reader struct {
	tokens []api.Token // the last one is KEnd, and nothing goes beyond it
	at     int
	open   int // how many of `(`, FOR, and `-` ahead of what it turns
}

func (r *reader) next() api.Token { return r.tokens[r.at] }

// stopped is an error of the next token.
func (r *reader) stopped(err api.Errno) stop { return stop{err, r.next().At} }

// wrong is the error of the next token, if no token of its kind, or with its text, can stand there.
func (r *reader) wrong() stop {
	if r.next().Kind == api.KEnd {
		return r.stopped(api.ErrEnd)
	}
	return r.stopped(api.ErrToken)
}

// sees tells whether the next token is this word or sign: no name is as one of them.
func (r *reader) sees(text string) bool { return r.next().S == text }

func (r *reader) took(text string) bool {
	if !r.sees(text) {
		return false
	}
	r.at++
	return true
}

func (r *reader) must(text string) {
	if !r.took(text) {
		panic(r.wrong())
	}
}

func (r *reader) name() string {
	if r.next().Kind != api.KName {
		panic(r.wrong())
	}
	r.at++
	return r.tokens[r.at-1].S
}

func (r *reader) number(right func(n api.Rat) bool) api.Rat {
	if r.next().Kind != api.KNumber {
		panic(r.wrong())
	}
	if !right(r.next().Num) {
		panic(r.stopped(api.ErrNumber))
	}
	r.at++
	return r.tokens[r.at-1].Num
}

func (r *reader) whole(least, most int64) int {
	n := r.number(func(n api.Rat) bool { return n.D == 1 && least <= n.N && n.N <= most })
	return int(n.N)
}

// enter takes a word or sign that opens; who calls it takes it off r.open again.
func (r *reader) enter(text string) {
	if !r.sees(text) {
		panic(r.wrong())
	}
	if r.open == maxOpen {
		panic(r.stopped(api.ErrDeep))
	}
	r.open++
	r.at++
}

// within reads what stands between parentheses.
func within[T any](r *reader, inner func() T) T {
	r.enter("(")
	t := inner()
	r.must(")")
	r.open--
	return t
}

// listed reads one or more, with that sign between.
func (r *reader) listed(sign string, one func() api.Tree) []api.Tree {
	list := []api.Tree{one()}
	for r.took(sign) {
		list = append(list, one())
	}
	return list
}

// upToEnd reads any number of what ends with a `;`, and the END behind them.
func (r *reader) upToEnd(one func() api.Tree) []api.Tree {
	var list []api.Tree
	for !r.took("end") {
		list = append(list, one())
		r.must(";")
	}
	return list
}

// row reads operands with operators of these kinds between; they group to the left.
func (r *reader) row(operand func() api.Tree, kinds ...int) api.Tree {
	left := operand()
	for kind := r.operator(kinds...); kind != 0; kind = r.operator(kinds...) {
		right := operand()
		left = node(kind, left, right)
	}
	return left
}

// operator takes the sign of one of these kinds; 0, if there is none.
func (r *reader) operator(kinds ...int) int {
	for _, kind := range kinds {
		if r.took(signOf(kind)) {
			return kind
		}
	}
	return 0
}

func node(kind int, kids ...api.Tree) api.Tree { return api.Tree{Kind: kind, Kids: kids} }
