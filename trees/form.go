package trees

import (
	"warrant/api"
	"warrant/number"
	"warrant/reader"
)

// form is how far a text has been read as a tree. A count of the open brackets
// is enough, however deep they are.
type form struct {
	open  int
	isDue bool // a tree must begin next; else a number or a bracket that closes
}

// checkForm tells where a text is no tree in form.
func checkForm(s string) reader.Fault {
	f := form{isDue: true}
	at := 0
	for !f.isWhole() && at < len(s) {
		end := f.take(s, at)
		if end == at {
			break
		}
		at = end
	}
	if at < len(s) || !f.isWhole() {
		return reader.Fault{Err: api.ErrForm, Place: at}
	}
	return reader.Fault{}
}

func (f *form) isWhole() bool { return !f.isDue && f.open == 0 }

// take tells the place behind what it has read: the place where it began, if what stands there cannot.
func (f *form) take(s string, at int) int {
	next := byteAt(s, at)
	if f.isDue {
		if next != '!' && next != '(' {
			return at
		}
		if next == '(' {
			f.open++
		}
		f.isDue = false
		return at + 1
	}
	if next == ')' {
		f.open--
		return at + 1
	}
	_, end := number.At(s, at)
	f.isDue = end > at
	return end
}

// byteAt is 0, which stands nowhere in a tree, behind the end of the text.
func byteAt(s string, at int) byte {
	if at < 0 || at >= len(s) {
		return 0
	}
	return s[at]
}
