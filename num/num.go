// Package num does arithmetic in 64 bits.
package num

import (
	"strconv"

	"joinery/api"
)

// operation answers what comes of two numbers, and how it stands.
type operation func(a, b int64) (int64, int)

// operations is the one list of what is arithmetic: Has and Do both ask it, so that they can't disagree.
func operations() map[int]operation {
	return map[int]operation{
		api.Add:  add,
		api.Sub:  sub,
		api.Mul:  mul,
		api.Div:  div,
		api.And:  and,
		api.Or:   or,
		api.Xor:  xor,
		api.Less: less,
		api.Same: same,
	}
}

// Has: is it an operation of arithmetic?
func Has(op int) bool {
	_, ok := operations()[op]
	return ok
}

// Do answers what comes of an operation.
func Do(op int, a, b int64) (int64, int) {
	do, ok := operations()[op]
	if !ok {
		return 0, api.Undef
	}
	return do(a, b)
}

func add(a, b int64) (int64, int) {
	return a + b, api.Runs
}

func sub(a, b int64) (int64, int) {
	return a - b, api.Runs
}

func mul(a, b int64) (int64, int) {
	return a * b, api.Runs
}

// The least number by -1 needs no case of its own: the language's division wraps round to the least number.
func div(a, b int64) (int64, int) {
	if b == 0 {
		return 0, api.ByNil
	}
	return a / b, api.Runs
}

func and(a, b int64) (int64, int) {
	return a & b, api.Runs
}

func or(a, b int64) (int64, int) {
	return a | b, api.Runs
}

func xor(a, b int64) (int64, int) {
	return a ^ b, api.Runs
}

func less(a, b int64) (int64, int) {
	return bit(a < b), api.Runs
}

func same(a, b int64) (int64, int) {
	return bit(a == b), api.Runs
}

func bit(is bool) int64 {
	if is {
		return 1
	}
	return 0
}

// Text answers a number's digits.
func Text(n int64) string {
	return strconv.FormatInt(n, 10)
}

// Parse answers the number of digits.
func Parse(s string) (int64, api.Errno) {
	n, err := strconv.ParseInt(s, 10, 64)
	// The library also reads a plus, noughts ahead and -0: a text is a number's only if the number has this text.
	if err != nil || Text(n) != s {
		return 0, api.ErrForm
	}
	return n, api.OK
}
