package proof_test

import (
	"slices"
	"strings"
	"testing"

	"warrant/api"
	"warrant/proof"
	"warrant/reader"
)

func TestNumbers(t *testing.T) {
	for _, c := range []struct {
		text  string
		want  []int
		fault reader.Fault
	}{
		{text: "0", want: []int{0}},
		{text: "9", want: []int{9}},
		{text: "10", want: []int{10}},
		{text: "99", want: []int{99}},
		{text: "1.0.23.0.4", want: []int{1, 0, 23, 0, 4}},
		{text: "90.0.9", want: []int{90, 0, 9}},
		{text: "", fault: reader.Fault{Err: api.ErrForm, Place: 0}},
		{text: ".", fault: reader.Fault{Err: api.ErrForm, Place: 0}},
		{text: "0.", fault: reader.Fault{Err: api.ErrForm, Place: 2}},
		{text: "00", fault: reader.Fault{Err: api.ErrForm, Place: 1}},
		{text: "1.07", fault: reader.Fault{Err: api.ErrForm, Place: 3}},
		{text: "100", fault: reader.Fault{Err: api.ErrForm, Place: 2}},
		{text: "12,3", fault: reader.Fault{Err: api.ErrForm, Place: 2}},
		{text: strings.Repeat("7.", 200), fault: reader.Fault{Err: api.ErrForm, Place: 400}},
		{text: strings.Repeat("7.", 200) + "7", fault: reader.Fault{Err: api.ErrLong}},
	} {
		got, fault := proof.Numbers(c.text)
		if !slices.Equal(got, c.want) || fault != c.fault {
			t.Errorf("%.20q is read as %v, %v, want %v, %v", c.text, got, fault, c.want, c.fault)
		}
		if c.want != nil && proof.Text(c.want) != c.text {
			t.Errorf("%v is written %q", c.want, proof.Text(c.want))
		}
	}
	if proof.Text(nil) != "" {
		t.Errorf("no number is written %q", proof.Text(nil))
	}
}

// The longest text that may be read has 200 numbers.
func TestMostNumbers(t *testing.T) {
	got, fault := proof.Numbers(strings.Repeat("7.", 199) + "23")
	if len(got) != 200 || got[0] != 7 || got[198] != 7 || got[199] != 23 || fault.Err != api.OK {
		t.Errorf("read as %v, %v", got, fault)
	}
}

func TestCheck(t *testing.T) {
	const program = "p(X,Y):-q(X),q(Y).q(a).q(Z):-r.r."
	for _, c := range []struct {
		query, text         string
		answer, explanation string
		fault               reader.Fault
	}{
		{"p(U,V),r.", "0.2.3.1.3", "U=A,V=a", "p(A,a) by 0\n  q(A) by 2\n    r by 3\n  q(a) by 1\nr by 3\n", reader.Fault{}},
		{"r.", "3", "yes", "r by 3\n", reader.Fault{}},
		{"p(b,V).", "0.1", "", "", reader.Fault{Err: api.ErrWrong, Place: 1}},
		{"p(U,V).", "0.1", "", "", reader.Fault{Err: api.ErrWrong, Place: 2}},
		{"p(U,V).", "0.4", "", "", reader.Fault{Err: api.ErrWrong, Place: 1}},
		{"r.", "3.3", "", "", reader.Fault{Err: api.ErrWrong, Place: 1}},
		{"r.", "4.", "", "", reader.Fault{Err: api.ErrForm, Place: 2}},
		{"r", "3", "", "", reader.Fault{Err: api.ErrQuery}},
	} {
		held, fault := proof.Check(program, c.query, c.text)
		if fault != c.fault {
			t.Errorf("%q, %q: %v, want %v", c.query, c.text, fault, c.fault)
		}
		if fault.Err == api.OK && (held.Answer() != c.answer || held.Explanation() != c.explanation) {
			t.Errorf("%q, %q: %q, %q", c.query, c.text, held.Answer(), held.Explanation())
		}
	}
	if _, fault := proof.Check("p", "r", ""); fault != (reader.Fault{Err: api.ErrProgram}) {
		t.Errorf("%v", fault)
	}
}
