// Package rule holds what layers 14 to 16 ask alike, as no layer may call one behind it: which names files may have, and how many slices they are cut into. See shared/doc/15-path.md and shared/doc/16-cut.md.
package rule

import (
	"strings"

	"geyser/api"
)

// Ending is what the names of volumes end in, and those of files don't.
const Ending = ".gys"

// Name: whether a file may have it.
func Name(name string) bool {
	if name == "" || len(name) > api.MaxName || strings.HasSuffix(name, Ending) {
		return false
	}
	for i := range len(name) {
		if !letter(name[i]) {
			return false
		}
	}
	parts := strings.Split(name, "/")
	for _, part := range parts {
		if part == "" || part == "." || part == ".." {
			return false
		}
	}
	return parts[0] != "old" && parts[0] != "tmp"
}

// Count: how many slices so many bytes are; 0 of a size below 1, or of a slice that isn't 1 to MaxSlice.
func Count(size, slice int) int {
	if size < 1 || slice < 1 || slice > api.MaxSlice {
		return 0
	}
	return (size-1)/slice + 1
}

// letter tells whether a name may have the byte.
func letter(c byte) bool {
	return c >= 'a' && c <= 'z' || c >= '0' && c <= '9' || c == '.' || c == '_' || c == '-' || c == '/'
}
