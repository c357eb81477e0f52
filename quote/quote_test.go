package quote

import "testing"

// A text between two ", and how long the shortest one that tells it is.
func TestStr(t *testing.T) {
	for s, want := range map[string]string{"": `""`, "a": `"a"`, "\n": `"\n"`, "\\\"": `"\\\""`, "\t\xff": "\"\t\xff\""} {
		if Str(s) != want {
			t.Errorf("%q: %q", s, Str(s))
		}
	}
	if Least("") != 2 || Least("\n") != 3 || Least("\\\"x") != 7 {
		t.Error("Least")
	}
}
