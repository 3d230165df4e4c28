package token_test

import (
	"testing"

	"warrant/token"
)

func readAll(s string) []token.Token {
	var all []token.Token
	at := 0
	for {
		t := token.Next(s, at)
		all = append(all, t)
		if t.Kind == token.End {
			return all
		}
		at = t.End
	}
}

func TestNext(t *testing.T) {
	type T = token.Token
	for _, c := range []struct {
		s    string
		want []T
	}{
		{"", []T{{token.End, 0, 0}}},
		{" \n ", []T{{token.End, 3, 3}}},
		{"(),.", []T{{token.Open, 0, 1}, {token.Close, 1, 2}, {token.Comma, 2, 3}, {token.Dot, 3, 4}, {token.End, 4, 4}}},
		{"az09AZ Za9 .", []T{{token.Name, 0, 6}, {token.Variable, 7, 10}, {token.Dot, 11, 12}, {token.End, 12, 12}}},
		{"a:-B", []T{{token.Name, 0, 1}, {token.If, 1, 3}, {token.Variable, 3, 4}, {token.End, 4, 4}}},
		{"::-", []T{{token.Stray, 0, 1}, {token.If, 1, 3}, {token.End, 3, 3}}},
		{":", []T{{token.Stray, 0, 1}, {token.End, 1, 1}}},
		{": -", []T{{token.Stray, 0, 1}, {token.Stray, 2, 3}, {token.End, 3, 3}}},
		{"12a", []T{{token.Stray, 0, 1}, {token.Stray, 1, 2}, {token.Name, 2, 3}, {token.End, 3, 3}}},
		{"a_b", []T{{token.Name, 0, 1}, {token.Stray, 1, 2}, {token.Name, 2, 3}, {token.End, 3, 3}}},
		{"\u00e9", []T{{token.Stray, 0, 1}, {token.Stray, 1, 2}, {token.End, 2, 2}}},
		{"a\tb\r\x00", []T{{token.Name, 0, 1}, {token.Stray, 1, 2}, {token.Name, 2, 3}, {token.Stray, 3, 4}, {token.Stray, 4, 5}, {token.End, 5, 5}}},
		{"a\x00", []T{{token.Name, 0, 1}, {token.Stray, 1, 2}, {token.End, 2, 2}}},
	} {
		got := readAll(c.s)
		if len(got) != len(c.want) {
			t.Errorf("%q: tokens %v, want %v", c.s, got, c.want)
			continue
		}
		for i := range got {
			if got[i] != c.want[i] {
				t.Errorf("%q: token %d is %v, want %v", c.s, i, got[i], c.want[i])
			}
		}
	}
}

func TestKindOfEveryByte(t *testing.T) {
	for b := 0; b < 256; b++ {
		want := token.Stray
		switch {
		case b == ' ' || b == '\n':
			want = token.End
		case b >= 'a' && b <= 'z':
			want = token.Name
		case b >= 'A' && b <= 'Z':
			want = token.Variable
		case b == '(':
			want = token.Open
		case b == ')':
			want = token.Close
		case b == ',':
			want = token.Comma
		case b == '.':
			want = token.Dot
		}
		if got := token.Next(string([]byte{byte(b)}), 0).Kind; got != want {
			t.Errorf("byte %d alone: kind %d, want %d", b, got, want)
		}
	}
}

func TestWordsEndAtEveryOtherByte(t *testing.T) {
	for b := 0; b < 256; b++ {
		letterOrDigit := b >= 'a' && b <= 'z' || b >= 'A' && b <= 'Z' || b >= '0' && b <= '9'
		want := 1
		if letterOrDigit {
			want = 2
		}
		for _, first := range []byte{'a', 'z', 'A', 'Z'} {
			if got := token.Next(string([]byte{first, byte(b)}), 0).End; got != want {
				t.Errorf("%c with byte %d behind it ends at %d, want %d", first, b, got, want)
			}
		}
	}
}

func TestPlacesOutsideTheText(t *testing.T) {
	for _, at := range []int{-1, -1 << 62} {
		if got := token.Next(" a", at); got != (token.Token{Kind: token.Name, Start: 1, End: 2}) {
			t.Errorf("from %d: %v", at, got)
		}
	}
	for _, at := range []int{2, 3, 1 << 62} {
		if got := token.Next(" a", at); got != (token.Token{Kind: token.End, Start: 2, End: 2}) {
			t.Errorf("from %d: %v", at, got)
		}
	}
}
