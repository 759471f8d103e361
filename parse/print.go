package parse

import (
	"strconv"
	"strings"

	"orrery/api"
)

// printer writes tokens, one behind the other, with what stands between.
type printer struct {
	text   strings.Builder
	tokens int
	last   string
	gap    string // what stands behind the last token, if nothing that follows forbids it
}

// put writes tokens; it panics with a stop, if the text becomes too long.
func (p *printer) put(tokens ...string) {
	for _, token := range tokens {
		if leansLeft(p.last, token) {
			p.gap = ""
		}
		p.text.WriteString(p.gap)
		p.text.WriteString(token)
		p.tokens++
		if p.text.Len() > api.MaxText || p.tokens > api.MaxTokens {
			panic(stop{err: api.ErrLong})
		}
		p.last, p.gap = token, gapBehind(token)
	}
}

// leansLeft tells whether nothing stands ahead of a token.
func leansLeft(last, token string) bool {
	switch token {
	case ",", ";", ")", "]", ".", ":", "..", "^":
		return true
	case "[":
		return last != "in"
	}
	return false
}

func gapBehind(token string) string {
	switch token {
	case "(", "[", ".", "..", "^":
		return ""
	case ";":
		return "\n"
	}
	return " "
}

// join lets nothing stand behind the last token.
func (p *printer) join() { p.gap = "" }

// line ends the line behind the last token.
func (p *printer) line() { p.gap = "\n" }

// called writes what is called, and its `(`, directly behind.
func (p *printer) called(name string) {
	p.put(name)
	p.join()
	p.put("(")
}

// signed writes a whole number.
func (p *printer) signed(n int64) {
	if n < 0 {
		p.put("-")
		p.join()
		n = -n
	}
	p.put(strconv.FormatInt(n, 10))
}

// digits are those of a number, with as many behind the point as it needs: at most 18, as its D divides 10^18.
func digits(n api.Rat) string {
	text := strconv.FormatInt(n.N/n.D, 10)
	left, under := uint64(n.N%n.D), uint64(n.D) // ten times what is left has room here
	if left != 0 {
		text += "."
	}
	for left != 0 {
		text += strconv.FormatUint(10*left/under, 10)
		left = 10 * left % under
	}
	return text
}
