package regex

import (
	"testing"

	"fretsaw/api"
)

// A fault is an error of its own type; what it tells names the error's number and its place.
func TestFault(t *testing.T) {
	var e error = fault{api.ErrRegex, 3}
	if got := e.Error(); got != "regex: error 60 at 3" {
		t.Error(got)
	}
}
