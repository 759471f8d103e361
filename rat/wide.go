package rat

const (
	wordBits = 64
	halfBits = wordBits / 2
)

// wide is hi 2^64 + lo. Where signs play a part, what is 2^127 or more stands for itself less 2^128.
type wide struct{ hi, lo uint64 }

// product is a b, made of products of halves of words.
func product(a, b uint64) wide {
	aHigh, aLow := halves(a)
	bHigh, bLow := halves(b)
	low := aLow * bLow
	middle := aHigh*bLow + low>>halfBits // a product of halves leaves room for one more half, and another one
	kept := aLow*bHigh + lowHalf(middle)
	return wide{
		hi: aHigh*bHigh + middle>>halfBits + kept>>halfBits,
		lo: kept<<halfBits | lowHalf(low),
	}
}

func halves(a uint64) (high, low uint64) { return a >> halfBits, lowHalf(a) }

func lowHalf(a uint64) uint64 { return uint64(uint32(a)) }

// signedProduct is n d; the sum of two of them, and its negative, are told right, if all of n and d have room.
func signedProduct(n int64, d uint64) wide {
	p := product(amount(n), d)
	if n < 0 {
		p = p.negative()
	}
	return p
}

func (a wide) plus(b wide) wide {
	s := wide{hi: a.hi + b.hi, lo: a.lo + b.lo}
	if s.lo < a.lo {
		s.hi++
	}
	return s
}

func (a wide) negative() wide { return wide{hi: ^a.hi, lo: ^a.lo}.plus(wide{lo: 1}) }

func (a wide) belowZero() bool { return a.hi>>(wordBits-1) != 0 }

// hasRoom tells whether an amount can be N, or D.
func (a wide) hasRoom() bool { return a.hi == 0 && a.lo <= most }

// by divides an amount by d: one of a single word at once, as nearly all are; else bit by bit from the second word on. d is from 1 to 2^63, so that twice a rest has room.
func (a wide) by(d uint64) (quotient wide, rest uint64) {
	if a.hi == 0 {
		return wide{lo: a.lo / d}, a.lo % d
	}
	quotient.hi, rest = a.hi/d, a.hi%d
	for range wordBits {
		rest = rest<<1 | a.lo>>(wordBits-1)
		a.lo <<= 1
		quotient.lo <<= 1
		if rest >= d {
			rest -= d
			quotient.lo |= 1
		}
	}
	return quotient, rest
}

// grown is from, multiplied by factor n times (not at all, if n is below 0); or the first product on the way that has no room: no more factors make that less, as a factor 0 never comes so far.
func grown(from wide, factor uint64, n int) wide {
	for range n {
		if !from.hasRoom() {
			break
		}
		from = product(from.lo, factor)
	}
	return from
}
