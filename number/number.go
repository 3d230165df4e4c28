// Package number reads the numbers of clauses, as warrants and trees have them.
package number

// At reads as many digits as a number can have, and tells the place behind
// them: the place where it began, if no digit stands there. Behind a first
// digit 0 it reads no other, so that one that stands there is at fault.
func At(s string, at int) (int, int) {
	if !isDigitAt(s, at) {
		return 0, at
	}
	value := int(s[at] - '0')
	at++
	if value > 0 && isDigitAt(s, at) {
		value = value*10 + int(s[at]-'0')
		at++
	}
	return value, at
}

func isDigitAt(s string, at int) bool {
	return at >= 0 && at < len(s) && s[at] >= '0' && s[at] <= '9'
}
