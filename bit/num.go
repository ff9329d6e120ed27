package bit

// How a number's bytes are made.
const (
	bitsEach  = 7
	goesOn    = 1 << bitsEach // the bit that all of its bytes but the last one have
	mostBytes = 10            // 64 bits, seven each
	topBits   = 1             // 64 less seven each of nine
)

// mayEnd: may a number's last byte be b, with so many ahead of it?
func mayEnd(ahead int, b byte) bool {
	switch ahead {
	case 0:
		return true
	case mostBytes - 1:
		return b > 0 && b < 1<<topBits // more would be above 2^64 - 1
	}
	return b > 0 // with a 0 it has a byte that it could be without
}
