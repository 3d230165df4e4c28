package proof

import (
	"strconv"

	"warrant/api"
	"warrant/number"
	"warrant/reader"
)

// Text writes a warrant.
func Text(numbers []int) string {
	text := ""
	for i, value := range numbers {
		if i > 0 {
			text += "."
		}
		text += strconv.Itoa(value)
	}
	return text
}

// Numbers reads a warrant.
func Numbers(warrant string) ([]int, reader.Fault) {
	if len(warrant) > api.MaxWarrant {
		return nil, reader.Fault{Err: api.ErrLong}
	}
	var numbers []int
	at := 0
	for {
		value, end := number.At(warrant, at)
		if end == at {
			return nil, reader.Fault{Err: api.ErrForm, Place: at}
		}
		numbers = append(numbers, value)
		if end >= len(warrant) {
			return numbers, reader.Fault{}
		}
		if warrant[end] != '.' {
			return nil, reader.Fault{Err: api.ErrForm, Place: end}
		}
		at = end + 1
	}
}
