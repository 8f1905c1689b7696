// Package money has amounts that do not go over: layer 1.
package money

import (
	"hawala/api"
)

// maxPart is the limit of both numbers of a rate: small enough that an amount times a rate's Num is never more than 2^50, so Convert's product can't wrap around.
const maxPart = 1024

// May tells whether a balance may be.
func May(n int) bool { return -api.MaxBalance <= n && n <= api.MaxBalance }

// Add is two balances together: ErrOverflow, if one of the three may not be.
func Add(a, b int) (int, error) {
	// The parts are asked first: the sum of two far greater ones could wrap around into the range.
	if !May(a) || !May(b) || !May(a+b) {
		return 0, api.ErrOverflow
	}
	return a + b, nil
}

// Sum is balances together, one by one.
func Sum(ns ...int) (int, error) {
	total := 0
	for _, n := range ns {
		next, err := Add(total, n)
		if err != nil {
			return 0, err
		}
		total = next
	}
	return total, nil
}

// Amount tells whether it may be asked for.
func Amount(n int) bool { return 1 <= n && n <= api.MaxAmount }

// Rate is how much of one currency is so much of another one.
type Rate struct{ Num, Den int }

// Convert is an amount by a rate, rounded down, and what is left (of Den): ErrArgument, if one may not be; ErrOverflow, if that is more than an amount may be.
func Convert(n int, r Rate) (int, int, error) {
	if !Amount(n) || !isPart(r.Num) || !isPart(r.Den) {
		return 0, 0, api.ErrArgument
	}
	product := n * r.Num
	quotient := product / r.Den
	if quotient > api.MaxAmount {
		return 0, 0, api.ErrOverflow
	}
	return quotient, product % r.Den, nil
}

func isPart(n int) bool { return 1 <= n && n <= maxPart }

// Rates are those between currencies: of each the row of the others.
func Rates() [api.Currencies][api.Currencies]Rate {
	return [api.Currencies][api.Currencies]Rate{
		{{1, 1}, {9, 10}, {150, 1}},
		{{11, 10}, {1, 1}, {160, 1}},
		{{1, 151}, {1, 161}, {1, 1}},
	}
}
