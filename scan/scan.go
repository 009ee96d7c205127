// Package scan tells what stands at a place of a text, for all that reads texts.
package scan

import "outline/api"

// IsAt tells whether c stands at a place. Beyond the text nothing does.
func IsAt(text string, at int, c byte) bool {
	return at >= 0 && at < len(text) && text[at] == c
}

// Number answers the number whose first digit stands at a place, and the place behind its last one: the same place, if there is no digit.
//
// All numbers above MaxSide are answered as the one next to it, so that a long one cannot overflow and seem small again.
func Number(text string, first int) (int, int) {
	n := 0
	at := first
	for at >= 0 && at < len(text) && isDigit(text[at]) {
		n = n*10 + int(text[at]-'0')
		if n > api.MaxSide {
			n = api.MaxSide + 1
		}
		at++
	}
	return n, at
}

func isDigit(c byte) bool {
	return c >= '0' && c <= '9'
}

// WrongAt tells what is wrong at a place where nothing stands that may stand there.
func WrongAt(text string, at int) api.Errno {
	if at >= len(text) {
		return api.ErrShort
	}
	return api.ErrSyntax
}
