package ops

import (
	"bytes"
	"maps"
	"testing"
)

// allNames is the opcodes of each name there is.
func allNames(t *testing.T) map[string][]byte {
	t.Helper()
	all := byName(t, documented)
	maps.Copy(all, byName(t, never))
	return all
}

// wantCodes holds the opcodes of a text against those of the names there are.
func wantCodes(t *testing.T, name string, all map[string][]byte) {
	t.Helper()
	if codes := Codes(name); !bytes.Equal(codes, all[name]) {
		t.Fatalf("%q has the opcodes %x, want %x", name, codes, all[name])
	}
}

// chance is bytes that look like chance, and are always the same of one seed.
func chance(seed uint64) func() byte {
	return func() byte {
		seed = seed*6364136223846793005 + 1442695040888963407
		return byte(seed >> 33)
	}
}
