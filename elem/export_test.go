package elem

import "orrery/api"

// What no call tells closely enough, for the tests alone.

func FineLn2() (float64, api.Ival) { return fineLn2().head, fineLn2().rest }

func FineHalfPi() (float64, api.Ival) { return fineHalfPi().head, fineHalfPi().rest }

func PowersOfE(r api.Ival) api.Ival { return powersOfE(r) }

func Turned(r api.Ival, first int) api.Ival { return turned(r, first) }

func OddShares(z api.Ival) api.Ival { return oddShares(z) }
