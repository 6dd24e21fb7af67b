package parse

import (
	"strings"

	"debenture/api"
	"debenture/decimal"
	"debenture/nat"
)

// mostDigits is how many digits a natural of num may have, and a number's Num, and its Den.
const mostDigits = 60

// infixes are the signs that stand between two operands, in the order of their ops.
const infixes = "+-*/"

// must tells whether a token is what it must be, and keeps what it says where the one who made the must wants it.
type must func(t api.Tok) bool

// sign: that sign.
func sign(text string) must {
	return func(t api.Tok) bool {
		return t.Text == text
	}
}

// infix: a sign between two operands; its op.
func infix(op *int) must {
	return func(t api.Tok) bool {
		i := strings.Index(infixes, t.Text)
		if i >= 0 {
			*op = api.TAdd + i
		}
		return i >= 0
	}
}

// known: one of the grammar's names; what begins with it.
func known(names map[string]int, op *int) must {
	return func(t api.Tok) bool {
		what, is := names[t.Text]
		if is {
			*op = what
		}
		return is
	}
}

// name: a name, whatever it is the name of beside.
func name(text *string) must {
	return func(t api.Tok) bool {
		*text = t.Text
		return t.Kind == api.TokName
	}
}

// number: a number of which the parts are not too long, as a Rat.
func number(x *api.Rat) must {
	return func(t api.Tok) bool {
		y, err := decimal.Parse(t.Text)
		*x = y
		return err == api.OK && len(y.Num) <= mostDigits && len(y.Den) <= mostDigits
	}
}

// natural: a natural that is not too long.
func natural(text *string) must {
	return func(t api.Tok) bool {
		*text = t.Text
		return nat.May(t.Text) && len(t.Text) <= mostDigits
	}
}

// above0: a natural that is not too long, and not 0.
func above0(text *string) must {
	is := natural(text)
	return func(t api.Tok) bool {
		return is(t) && *text != "0"
	}
}

// day: a day there is.
func day(n *int) must {
	return func(t api.Tok) bool {
		a, is := nat.Small(t.Text)
		*n = a
		return is && a <= api.MaxDay
	}
}

// from: a day there is, from the one that first keeps by then on, and not too many behind it.
func from(first, n *int) must {
	is := day(n)
	return func(t api.Tok) bool {
		return is(t) && *first <= *n && *n-*first < api.MaxSpan
	}
}
