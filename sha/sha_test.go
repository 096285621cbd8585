package sha_test

import (
	"bytes"
	"crypto/sha256"
	"encoding/binary"
	"encoding/hex"
	"math/rand"
	"slices"
	"strings"
	"testing"
	"unsafe"

	"broadsheet/sha"
)

const (
	ofNothing     = "e3b0c44298fc1c149afbf4c8996fb92427ae41e4649b934ca495991b7852b855"
	ofEightZeros  = "af5570f5a1810b7af78caf4bc70a660f0df51e42baf91d4de5b2328de0e83dfc"
	ofABC         = "ba7816bf8f01cfea414140de5dae2223b00361a396177a9cb410ff61f20015ad"
	ofMillionOfA  = "cdc76e5c9914fb9281a1c7e284d73e67f1809a48a497200e046d39ccc7112cd0"
	ofHalfAGiga   = "9acca8e8c22201155389f65abbf6bc9723edc7384ead80503839f49dcc56d767"
	ofAllTheBytes = "40aff2e9d2d8922e47afd4648e6967497158785fbd1da870e7110266bf944880"
)

// holds wants Sum and Hex of parts to be what the library says of their bytes.
func holds(t *testing.T, parts ...[]byte) {
	t.Helper()
	whole := bytes.Join(parts, nil)
	want := sha256.Sum256(whole)
	if got := sha.Sum(parts...); got != want {
		t.Errorf("Sum of %d parts of %d bytes: %x, not %x", len(parts), len(whole), got, want)
	}
	if got := sha.Hex(parts...); got != hex.EncodeToString(want[:]) {
		t.Errorf("Hex of %d parts of %d bytes: %s, not %x", len(parts), len(whole), got, want)
	}
}

// keyHolds wants Key to be the digest of the lengths and the parts.
func keyHolds(t *testing.T, parts ...string) {
	t.Helper()
	want := sha256.Sum256(lengthened(parts))
	if got := sha.Key(parts...); got != hex.EncodeToString(want[:]) {
		t.Errorf("Key of %d parts: %s, not %x", len(parts), got, want)
	}
}

func lengthened(parts []string) []byte {
	var whole []byte
	for _, part := range parts {
		whole = binary.BigEndian.AppendUint64(whole, uint64(len(part)))
		whole = append(whole, part...)
	}
	return whole
}

// mixed are so many bytes that aren't alike.
func mixed(length int) []byte {
	r := rand.New(rand.NewSource(int64(length)))
	b := make([]byte, length)
	r.Read(b)
	return b
}

// TestKnownDigests has those that FIPS 180 and its examples tell, and others
// that are well known.
func TestKnownDigests(t *testing.T) { // P5.1, P5.2
	allBytes := make([]byte, 0x100)
	for i := range allBytes {
		allBytes[i] = byte(i)
	}
	for _, p := range []struct {
		s    []byte
		want string
	}{
		{nil, ofNothing},
		{[]byte("a"), "ca978112ca1bbdcafac231b39a23dc4da786eff8147c4e72b9807785afee48bb"},
		{[]byte("abc"), ofABC},
		{[]byte("abcdbcdecdefdefgefghfghighijhijkijkljklmklmnlmnomnopnopq"), "248d6a61d20638b8e5c026930c3e6039a33ce45964ff2167f6ecedd419db06c1"},
		{[]byte("abcdefghbcdefghicdefghijdefghijkefghijklfghijklmghijklmnhijklmnoijklmnopjklmnopqklmnopqrlmnopqrsmnopqrstnopqrstu"), "cf5b16a778af8380036ce59e7b0492370b249b11e8f07a51afac45037afee9d1"},
		{[]byte("The quick brown fox jumps over the lazy dog"), "d7a8fbb307d7809469ca9abcb0082e4f8d5651e46d3cdb762d02d0bf37c9e592"},
		{[]byte{0xbd}, "68325720aabd7c82f30f554b313d0570c95accbb7dc4b5aae11204c08ffe732b"},
		{[]byte{0xc9, 0x8c, 0x8e, 0x55}, "7abc22c0ae5af26ce93dbb94433a0e0b2e119d014f8e7f65bd56c61ccccd9504"},
		{make([]byte, 8), ofEightZeros},
		{make([]byte, 55), "02779466cdec163811d078815c633f21901413081449002f24aa3e80f0b88ef7"},
		{make([]byte, 56), "d4817aa5497628e7c77e6b606107042bbba3130888c5f47a375e6179be789fbb"},
		{make([]byte, 57), "65a16cb7861335d5ace3c60718b5052e44660726da4cd13bb745381b235a1785"},
		{make([]byte, 64), "f5a5fd42d16a20302798ef6ed309979b43003d2320d9f0e8ea9831a92759fb4b"},
		{allBytes, ofAllTheBytes},
		{make([]byte, 1000), "541b3e9daa09b20bf85fa273e5cbd3e80185aa4ec298e765db87742b70138a53"},
		{bytes.Repeat([]byte{0x41}, 1000), "c2e686823489ced2017f6059b8b239318b6364f6dcd835d0a519105a1eadd6e4"},
		{bytes.Repeat([]byte{0x55}, 1005), "f4d62ddec0f3dd90ea1380fa16a5ff8dc4c54b21740650f24afc4120903552b0"},
		{bytes.Repeat([]byte("a"), 1000000), ofMillionOfA},
		{make([]byte, 1000000), "d29751f2649b32ff572b5e0a9f541ea660a50f94ff0beedfb0b692b924cc8025"},
	} {
		if got := sha.Hex(p.s); got != p.want {
			t.Errorf("Hex of %d bytes: %s, not %s", len(p.s), got, p.want)
		}
		if sum := sha.Sum(p.s); hex.EncodeToString(sum[:]) != p.want {
			t.Errorf("Sum of %d bytes: %x, not %s", len(p.s), sum, p.want)
		}
		holds(t, p.s)
	}
}

func TestExample(t *testing.T) { // P5.2
	want := strings.ReplaceAll("ba7816bf 8f01cfea 414140de 5dae2223 b00361a3 96177a9c b410ff61 f20015ad", " ", "")
	if got := sha.Hex([]byte("a"), []byte("bc")); got != want {
		t.Errorf("Hex(a, bc): %s", got)
	}
}

func TestPartsOfNoBytes(t *testing.T) { // P5.1, P5.2
	for _, parts := range [][][]byte{
		nil, {}, {nil}, {{}}, {nil, nil}, {{}, nil, {}}, make([][]byte, 100), {mixed(100)[:0], mixed(100)[100:]},
	} {
		if got := sha.Hex(parts...); got != ofNothing {
			t.Errorf("Hex(%v): %s", parts, got)
		}
		holds(t, parts...)
	}
	for _, parts := range [][][]byte{
		{nil, []byte("abc")}, {[]byte("abc"), {}}, {{}, []byte("a"), nil, nil, []byte("bc"), {}}, {[]byte("ab"), nil, []byte("c")},
	} {
		if got := sha.Hex(parts...); got != ofABC {
			t.Errorf("Hex(%q): %s", parts, got)
		}
		holds(t, parts...)
	}
	if got := sha.Hex(); got != ofNothing {
		t.Errorf("Hex(): %s", got)
	}
}

// TestLengths tries all lengths of a few blocks, and some about greater
// multiples of them.
func TestLengths(t *testing.T) { // P5.1
	for length := range 5*64 + 2 {
		holds(t, mixed(length))
		holds(t, make([]byte, length))
		holds(t, bytes.Repeat([]byte{0xff}, length))
	}
	for _, about := range []int{1000, 1024, 4096, 8191, 65536, 1 << 20} {
		for length := about - 10; length <= about+10; length++ {
			holds(t, mixed(length))
		}
	}
}

// TestManyBits has a number of bits that is greater than 32 bits tell.
func TestManyBits(t *testing.T) { // P5.1
	if testing.Short() {
		t.Skip("it takes some seconds")
	}
	parts := slices.Repeat([][]byte{make([]byte, 1<<20)}, 512)
	if got := sha.Hex(parts...); got != ofHalfAGiga {
		t.Errorf("Hex of 2^29 bytes: %s", got)
	}
}

func TestEveryByte(t *testing.T) { // P5.1, P5.2
	seen := map[string]int{}
	for c := range 0x100 {
		for _, place := range []int{0, 1, 2, 3, 54, 55, 56, 62, 63, 64, 99} {
			b := make([]byte, 100)
			b[place] = byte(c)
			holds(t, b)
		}
		holds(t, []byte{byte(c)})
		seen[sha.Hex([]byte{byte(c)})]++
	}
	if len(seen) != 0x100 {
		t.Errorf("%d digests of 256 bytes", len(seen))
	}
}

// TestCuts has the same bytes as one part and as more.
func TestCuts(t *testing.T) { // P5.1
	for _, length := range []int{1, 2, 55, 56, 63, 64, 65, 119, 120, 127, 128, 129, 200, 3000} {
		b := mixed(length)
		want := sha.Sum(b)
		for i := range length + 1 {
			if got := sha.Sum(b[:i], b[i:]); got != want {
				t.Fatalf("Sum of %d bytes cut at %d: %x, not %x", length, i, got, want)
			}
			if got := sha.Sum(b[:i/2], b[i/2:i], nil, b[i:]); got != want {
				t.Fatalf("Sum of %d bytes cut at %d and %d: %x, not %x", length, i/2, i, got, want)
			}
		}
		for width := 1; width <= min(length, 130); width++ {
			if got := sha.Sum(slices.Collect(slices.Chunk(b, width))...); got != want {
				t.Errorf("Sum of %d bytes by %d: %x, not %x", length, width, got, want)
			}
		}
		holds(t, b)
	}
	short := mixed(130)
	want := sha.Sum(short)
	for i := range len(short) + 1 {
		for j := i; j <= len(short); j++ {
			if got := sha.Sum(short[:i], short[i:j], short[j:]); got != want {
				t.Fatalf("Sum cut at %d and %d: %x, not %x", i, j, got, want)
			}
		}
	}
}

// TestPartsThatShare has parts that are the same memory, or overlap.
func TestPartsThatShare(t *testing.T) { // P5.1
	b := mixed(100)
	holds(t, b, b)
	holds(t, b, b, b, b[:1], b[99:])
	holds(t, b[:70], b[30:], b[50:60])
}

// TestOrder has the parts' bytes one behind the other as they come.
func TestOrder(t *testing.T) { // P5.1
	if sha.Sum([]byte("a"), []byte("b")) == sha.Sum([]byte("b"), []byte("a")) {
		t.Errorf("Sum is the same in any order")
	}
	if sha.Sum(make([]byte, 63)) == sha.Sum(make([]byte, 64)) {
		t.Errorf("Sum of zeros is the same at any length")
	}
	if sha.Sum([]byte{0x80}) == sha.Sum() {
		t.Errorf("Sum takes the byte behind the parts for one of theirs")
	}
}

func TestHexIsSum(t *testing.T) { // P5.2
	digits := map[byte]int{}
	for length := range 300 {
		b := mixed(length)
		text, sum := sha.Hex(b), sha.Sum(b)
		if len(text) != 64 || strings.Trim(text, "0123456789abcdef") != "" {
			t.Fatalf("Hex of %d bytes: %q", length, text)
		}
		for i := range sum {
			if two := hex.EncodeToString(sum[i : i+1]); text[2*i:2*i+2] != two {
				t.Errorf("Hex of %d bytes: byte %d is %s, not %s", length, i, text[2*i:2*i+2], two)
			}
			digits[text[2*i]]++
			digits[text[2*i+1]]++
		}
	}
	if len(digits) != 16 {
		t.Errorf("Hex has %d digits", len(digits))
	}
}

func TestKey(t *testing.T) { // P5.2
	for _, parts := range [][]string{
		nil, {}, {""}, {"", ""}, {"", "", ""}, {"a"}, {"abc"}, {"a", "bc"}, {"ab", "c"}, {"", "abc"}, {"abc", ""}, {"a", "b", "c"}, {"c", "b", "a"},
		{"é…\U0001F600"}, {"\xff\x00\x80", "\xed\xa0\x80"}, {"\x00"}, {"\x00\x00", "\x00"}, slices.Repeat([]string{""}, 1000), strings.Split(strings.Repeat("ab ", 1000), " "),
	} {
		keyHolds(t, parts...)
	}
	for _, length := range []int{1, 7, 8, 9, 46, 47, 48, 55, 56, 57, 63, 64, 65, 119, 120, 127, 128, 255, 256, 257, 4000, 65535, 65536, 65537, 1<<24 - 1, 1 << 24, 1<<24 + 1} {
		keyHolds(t, strings.Repeat("k", length))
		if length <= 65537 {
			keyHolds(t, string(mixed(length)), "", string(mixed(length/2)))
		}
	}
	for _, p := range []struct{ got, want string }{
		{sha.Key(), ofNothing},
		{sha.Key(""), ofEightZeros},
		{sha.Key("a"), sha.Hex([]byte("\x00\x00\x00\x00\x00\x00\x00\x01a"))},
		{sha.Key("a", "", "bc"), sha.Hex([]byte("\x00\x00\x00\x00\x00\x00\x00\x01a\x00\x00\x00\x00\x00\x00\x00\x00\x00\x00\x00\x00\x00\x00\x00\x02bc"))},
		{sha.Key(strings.Repeat("b", 0x102)), sha.Hex([]byte("\x00\x00\x00\x00\x00\x00\x01\x02"), bytes.Repeat([]byte("b"), 0x102))},
	} {
		if p.got != p.want {
			t.Errorf("Key: %s, not %s", p.got, p.want)
		}
	}
}

// unlike wants each of the lists to have a key of its own.
func unlike(t *testing.T, lists [][]string) {
	t.Helper()
	seen := map[string][]string{}
	for _, list := range lists {
		key := sha.Key(list...)
		if other, ok := seen[key]; ok {
			t.Errorf("Key(%q) and Key(%q) are one: %s", list, other, key)
		}
		seen[key] = list
	}
}

func TestUnlikeListsHaveUnlikeKeys(t *testing.T) { // P5.2
	one, none := "\x00\x00\x00\x00\x00\x00\x00\x01", "\x00\x00\x00\x00\x00\x00\x00\x00"
	unlike(t, [][]string{
		{}, {"abc"}, {"ab", "c"}, {"a", "bc"}, {"a", "b", "c"}, {"", "abc"}, {"abc", ""}, {"a", "", "bc"},
		{""}, {"", ""}, {"", "", ""}, {"", "", "", ""},
		{"a", "c", "b"}, {"b", "a", "c"}, {"b", "c", "a"}, {"c", "a", "b"}, {"c", "b", "a"}, {"bc", "a"}, {"c", "ab"},
		{one}, {none}, {one + "a"}, {"a" + one + "b"}, {none + none}, {none, none}, {"", none}, {none, ""}, {one, "a"}, {"8", none},
	})
	// All lists of up to four of these.
	words := []string{"", "a", "b", "aa", "ab", "\x00", none, one}
	lists := [][]string{{}}
	for first, n := 0, 0; n < 4; n++ {
		longer := lists[first:]
		first = len(lists)
		for _, list := range longer {
			for _, word := range words {
				lists = append(lists, append(slices.Clone(list), word))
			}
		}
	}
	if len(lists) != 1+8+64+512+4096 {
		t.Fatalf("%d lists", len(lists))
	}
	unlike(t, lists)
}

// TestUnlikeCutsHaveUnlikeKeys has one text cut into parts in every way.
func TestUnlikeCutsHaveUnlikeKeys(t *testing.T) { // P5.2
	for _, text := range []string{"aaaaaaaaaa", "\x00\x00\x00\x00\x00\x00\x00\x00\x00\x00", "abcdefghij"} {
		var lists [][]string
		for mask := range 1 << (len(text) - 1) {
			var list []string
			from := 0
			for i := 1; i < len(text); i++ {
				if mask>>(i-1)&1 == 1 {
					list = append(list, text[from:i])
					from = i
				}
			}
			lists = append(lists, append(list, text[from:]))
		}
		unlike(t, lists)
	}
}

// TestNothingIsChanged looks at the parts, at their spare room, and at the
// list and its own.
func TestNothingIsChanged(t *testing.T) { // rule 5
	for _, length := range []int{0, 1, 8, 55, 56, 63, 64, 65, 119, 120, 128, 1000} {
		memory := mixed(3*length + 200)
		was := bytes.Clone(memory)
		list := [][]byte{memory[:length], nil, memory[length : 2*length], memory[2*length : 3*length], memory[:9], memory[9:18]}
		heads := slices.Clone(list)
		for n := range 5 {
			sha.Sum(list[:n]...)
			sha.Hex(list[:n]...)
		}
		if !bytes.Equal(memory, was) {
			t.Errorf("the bytes of parts of %d are others", length)
		}
		if !slices.EqualFunc(list, heads, isSame) {
			t.Errorf("the list of parts of %d is another", length)
		}
	}
	words := []string{"a", "", "b", "spare", "room"}
	sha.Key(words[:3]...)
	if !slices.Equal(words, []string{"a", "", "b", "spare", "room"}) {
		t.Errorf("Key has changed its parts: %q", words)
	}
}

// isSame says whether two parts are the same memory.
func isSame(a, b []byte) bool {
	return unsafe.SliceData(a) == unsafe.SliceData(b) && len(a) == len(b) && cap(a) == cap(b)
}

// TestNothingIsKept asks again behind other calls, and behind a change of what
// was handed in and of what was answered.
func TestNothingIsKept(t *testing.T) { // rules 5, 7
	b := mixed(100)
	sum, text, key := sha.Sum(b), sha.Hex(b), sha.Key(string(b), "")
	first := sum
	for length := range 200 {
		sha.Sum(mixed(length), b)
		sha.Key(string(mixed(length)))
	}
	sum[0]++
	if sha.Sum(b) != first || sha.Hex(b) != text || sha.Key(string(b), "") != key {
		t.Errorf("another answer behind other calls")
	}
	clear(b)
	if got := sha256.Sum256(b); sha.Sum(b) != got {
		t.Errorf("Sum of bytes that were others: not %x", got)
	}
	if first == sum || hex.EncodeToString(first[:]) != text {
		t.Errorf("an answer is another behind other calls")
	}
}

func TestManyParts(t *testing.T) { // P5.1, P5.2
	const n = 1 << 18
	parts, words := make([][]byte, n), make([]string, n)
	for i := range parts {
		parts[i] = []byte{byte(i), byte(i >> 8), byte(i >> 16)}[:i%4]
		words[i] = string(parts[i])
	}
	holds(t, parts...)
	keyHolds(t, words...)
	unlike(t, [][]string{words, words[1:], words[:n-1], append(slices.Clone(words), "")})
}

func TestRandomParts(t *testing.T) { // P5.1, P5.2
	r := rand.New(rand.NewSource(5))
	for range 3000 {
		parts, words := make([][]byte, r.Intn(8)), []string{}
		for i := range parts {
			parts[i] = make([]byte, r.Intn(150))
			r.Read(parts[i])
			words = append(words, string(parts[i]))
		}
		holds(t, parts...)
		keyHolds(t, words...)
	}
}

func FuzzCalls(f *testing.F) {
	f.Add([]byte("a"), []byte("bc"), []byte(""))
	f.Add(make([]byte, 55), make([]byte, 64), make([]byte, 1))
	f.Fuzz(func(t *testing.T, a, b, c []byte) {
		holds(t, a, b, c)
		holds(t, c, a)
		keyHolds(t, string(a), string(b), string(c))
		keyHolds(t, string(b))
		if sha.Key(string(a), string(b)) == sha.Key(string(b), string(a)) != bytes.Equal(a, b) {
			t.Errorf("Key(%q, %q) in the other order", a, b)
		}
	})
}
