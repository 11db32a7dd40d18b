package rtu

import (
	"errors"
	"testing"

	"triune/api"
)

// However often an error is wrapped, its number is the same.
func TestNumberOfWhatIsWrapped(t *testing.T) {
	for _, e := range []api.Errno{api.ErrShort, api.ErrMany, api.ErrSum} {
		once := fault{"sum", e}
		for _, err := range []error{e, once, fault{"frame", once}} {
			if n := number(err); n != e {
				t.Errorf("%v: %v, want %v", err, n, e)
			}
		}
	}
	if n := number(nil); n != api.OK {
		t.Error(n)
	}
}

func TestFaultTellsWhatHasIt(t *testing.T) {
	for _, c := range []struct {
		err  error
		what string
		is   api.Errno
	}{
		{fit("Pdu", 0, 1, 253), "Pdu: triune: error 3", api.ErrShort},
		{fit("frame", 257, 4, 256), "frame: triune: error 4", api.ErrMany},
	} {
		if c.err == nil || c.err.Error() != c.what || !errors.Is(c.err, c.is) {
			t.Errorf("%v, want %s", c.err, c.what)
		}
	}
	for _, n := range []int{4, 5, 255, 256} {
		if err := fit("frame", n, 4, 256); err != nil {
			t.Errorf("%d: %v", n, err)
		}
	}
	if _, err := read([]byte{0, 0, 0, 0}); err == nil || err.Error() != "sum: triune: error 6" || !errors.Is(err, api.ErrSum) {
		t.Error(err)
	}
}
