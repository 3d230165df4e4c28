package proof

import (
	"strconv"

	"warrant/api"
	"warrant/reader"
)

// Text writes a warrant.
func Text(numbers []int) string {
	text := ""
	for i, number := range numbers {
		if i > 0 {
			text += "."
		}
		text += strconv.Itoa(number)
	}
	return text
}

// Numbers reads a warrant.
func Numbers(warrant string) ([]int, reader.Fault) {
	if len(warrant) > api.MaxWarrant {
		return nil, reader.Fault{Err: api.ErrLong}
	}
	var numbers []int
	at := 0
	for {
		number, end := numberAt(warrant, at)
		if end == at {
			return nil, reader.Fault{Err: api.ErrForm, Place: at}
		}
		numbers = append(numbers, number)
		if end >= len(warrant) {
			return numbers, reader.Fault{}
		}
		if warrant[end] != '.' {
			return nil, reader.Fault{Err: api.ErrForm, Place: end}
		}
		at = end + 1
	}
}

// numberAt reads as many digits as a number can have, and tells the place
// behind them: the place where it began, if no digit stands there. Behind a
// first digit 0 it reads no other, so that one that stands there is at fault.
func numberAt(s string, at int) (int, int) {
	if !isDigitAt(s, at) {
		return 0, at
	}
	number := int(s[at] - '0')
	at++
	if number > 0 && isDigitAt(s, at) {
		number = number*10 + int(s[at]-'0')
		at++
	}
	return number, at
}

func isDigitAt(s string, at int) bool {
	return at >= 0 && at < len(s) && s[at] >= '0' && s[at] <= '9'
}
