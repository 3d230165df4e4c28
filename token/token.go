// Package token splits a text into its tokens.
package token

// Kind tells what a token is.
type Kind int

const (
	End      Kind = 0 // no token is left
	Name     Kind = 1
	Variable Kind = 2
	Open     Kind = 3
	Close    Kind = 4
	Comma    Kind = 5
	Dot      Kind = 6
	If       Kind = 7 // the two bytes :-
	Stray    Kind = 8 // a byte that begins no token
)

// Token is a token and the bytes of the text that it takes: Start to End-1.
type Token struct {
	Kind  Kind
	Start int
	End   int
}

// Next finds the first token that begins at the place at or behind it.
func Next(s string, at int) Token {
	start := skipBlanks(s, at)
	if start >= len(s) {
		return Token{Kind: End, Start: len(s), End: len(s)}
	}
	first := byteAt(s, start)
	second := byteAt(s, start+1)
	kind := kindOf(first, second)
	return Token{Kind: kind, Start: start, End: endOf(s, start, kind)}
}

func skipBlanks(s string, at int) int {
	if at < 0 {
		at = 0
	}
	for at < len(s) && isBlank(s[at]) {
		at++
	}
	return at
}

// byteAt gives a byte 0 outside the text: it ends every token, and begins none.
func byteAt(s string, at int) byte {
	if at < 0 || at >= len(s) {
		return 0
	}
	return s[at]
}

func kindOf(first byte, second byte) Kind {
	switch {
	case isSmall(first):
		return Name
	case isCapital(first):
		return Variable
	case first == '(':
		return Open
	case first == ')':
		return Close
	case first == ',':
		return Comma
	case first == '.':
		return Dot
	case first == ':' && second == '-':
		return If
	}
	return Stray
}

func endOf(s string, start int, kind Kind) int {
	switch kind {
	case Name, Variable:
		return endOfWord(s, start)
	case If:
		return start + 2
	}
	return start + 1
}

func endOfWord(s string, at int) int {
	for isWord(byteAt(s, at)) {
		at++
	}
	return at
}

func isBlank(b byte) bool { return b == 32 || b == 10 }

func isSmall(b byte) bool { return b >= 'a' && b <= 'z' }

func isCapital(b byte) bool { return b >= 'A' && b <= 'Z' }

func isDigit(b byte) bool { return b >= '0' && b <= '9' }

func isWord(b byte) bool { return isSmall(b) || isCapital(b) || isDigit(b) }
