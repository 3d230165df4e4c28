package number_test

import (
	"testing"

	"warrant/number"
)

func TestAt(t *testing.T) {
	for _, c := range []struct {
		s         string
		at        int
		want, end int
	}{
		{"0", 0, 0, 1}, {"7", 0, 7, 1}, {"10", 0, 10, 2}, {"99", 0, 99, 2},
		{"00", 0, 0, 1}, {"07", 0, 0, 1}, {"100", 0, 10, 2}, {"239", 0, 23, 2},
		{"(4!)", 1, 4, 2}, {"(42!)", 1, 42, 3}, {"1.20.3", 2, 20, 4}, {"12", 1, 2, 2},
		{"", 0, 0, 0}, {"x", 0, 0, 0}, {"/1", 0, 0, 0}, {":1", 0, 0, 0}, {"1/", 0, 1, 1}, {"1:", 0, 1, 1},
		{"12", 2, 0, 2}, {"12", 3, 0, 3}, {"12", -1, 0, -1}, {"12", 1<<63 - 1, 0, 1<<63 - 1},
	} {
		got, end := number.At(c.s, c.at)
		if got != c.want || end != c.end {
			t.Errorf("At(%q, %d) = %d, %d, want %d, %d", c.s, c.at, got, end, c.want, c.end)
		}
	}
}
