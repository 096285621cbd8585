package sha

import "iter"

const (
	blockWidth  = 64
	lengthWidth = 8
)

// block is handed on by value, so that the next one may be filled over it.
type block [blockWidth]byte

// blocks goes over the parts' bytes and their tail, a block at a time.
func blocks(parts [][]byte) iter.Seq[block] {
	return func(yield func(block) bool) {
		var b block
		filled := 0
		for piece := range withTail(parts) {
			for len(piece) > 0 {
				n := copy(b[filled:], piece)
				piece = piece[n:]
				filled += n
				if filled < blockWidth {
					continue
				}
				if !yield(b) {
					return
				}
				filled = 0
			}
		}
	}
}

// withTail goes over the parts and then over what stands behind them. They are
// not put together, so that long ones aren't in memory twice.
func withTail(parts [][]byte) iter.Seq[[]byte] {
	return func(yield func([]byte) bool) {
		length := uint64(0)
		for _, part := range parts {
			if !yield(part) {
				return
			}
			length += uint64(len(part))
		}
		yield(tail(length))
	}
}

// tail is what stands behind so many bytes.
func tail(length uint64) []byte {
	// One byte and the length are always there; the noughts fill the block,
	// or the next one where this has no room for both.
	const most = 2*blockWidth - 1 - lengthWidth
	noughts := (most - length%blockWidth) % blockWidth
	behind := make([]byte, 1+noughts, 1+noughts+lengthWidth)
	behind[0] = 0x80
	return append(behind, eightBytes(8*length)...)
}

// eightBytes of a number, the greatest first.
func eightBytes(n uint64) []byte {
	digits := make([]byte, lengthWidth)
	for i := range digits {
		digits[i] = byte(n >> (56 - 8*i))
	}
	return digits
}
