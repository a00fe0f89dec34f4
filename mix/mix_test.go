package mix

import (
	"fmt"
	"math"
	"math/big"
	"strings"
	"testing"
)

// known are hashes that were worked out with whole numbers of any size, outside this program.
var known = []struct {
	salt int
	pass string
	hash uint64
}{
	{0, "", 0x73f8cdbfecfaac6b},
	{1, "", 0x64e66a9e541c1920},
	{7, "", 0x4a089098f9723aea},
	{65535, "", 0xc2bec6be1ffe904a},
	{0, "a", 0xe3615deae6ac0f68},
	{1, "a", 0x23fa85d913de6a22},
	{7, "secret", 0x45b1e8ad6017cd28},
	{7, "Secret", 0xa46f613009aca95e},
	{7, "terces", 0x69dd06cad50d6197}, // the order of the bytes counts
	{0, "\x00", 0x74ee42014178a783},   // a byte 0 counts
	{0, "\x00\x00", 0xf99954148290aa46},
	{48879, "\xff\xfe\x80", 0x1e0a5de656ce333d}, // bytes, not runes
	{0x12345, "\u00e9", 0x3b0db3f71a827fa1},
	{65535, "a b:c\n$", 0x1eafd0474cdf483f},
	{256, strings.Repeat("x", 1000), 0xe7e5fc463678c79b},
	{65537, "a", 0x23fa85d913de6a22}, // the lowest 16 bits of the salt alone
	{-1, "a", 0x023dfcb4519604a8},
	{math.MaxInt, "a", 0x023dfcb4519604a8},
	{math.MinInt, "a", 0xe3615deae6ac0f68},
}

// somePasses are passwords as users choose them, and as they do not.
var somePasses = []string{
	"", "a", "b", "aa", "ab", "ba", "secret", "Secret", "secret ", " secret", "*", "$", "0007$", "\x00", "\x00\x00", "\n", "\x7f", "\x80", "\xff", "\xff\xff",
	"\u00e9", "a:b", "a\x00b", strings.Repeat("p", 256), strings.Repeat("\xff", 3000),
}

// someSalts are salts within the 16 bits that count, and beyond them.
var someSalts = []int{
	0, 1, 7, 9, 10, 15, 16, 255, 256, 4095, 4096, 0x1234, 0xabcd, 32767, 32768, 65534, 65535,
	65536, 65537, 0x12345, 1 << 31, 1<<32 - 1, 1 << 40, -1, -2, -65535, -65536, -65537, math.MaxInt, math.MinInt, math.MinInt + 1,
}

// lowSalt is the number that the lowest 16 bits of a salt make, found by division.
func lowSalt(salt int) int {
	return (salt%65536 + 65536) % 65536
}

// slowMix is the chapter's Mix in whole numbers of any size.
func slowMix(salt int, pass string) uint64 {
	whole := func(digits string) *big.Int {
		n, ok := new(big.Int).SetString(digits, 10)
		if !ok {
			panic(digits)
		}
		return n
	}
	limit := new(big.Int).Exp(big.NewInt(2), big.NewInt(64), nil)
	part := new(big.Int).Exp(big.NewInt(2), big.NewInt(29), nil)
	h := whole("14695981039346656037")
	h.Xor(h, big.NewInt(int64(lowSalt(salt))))
	for range 64 {
		for _, b := range []byte(pass) {
			h.Xor(h, big.NewInt(int64(b)))
			h.Mul(h, whole("1099511628211"))
			h.Mod(h, limit)
		}
		h.Xor(h, new(big.Int).Quo(h, part))
		h.Mul(h, whole("11400714819323198485"))
		h.Mod(h, limit)
	}
	return h.Uint64()
}

func TestMixKnown(t *testing.T) {
	for _, c := range known {
		if got := Mix(c.salt, c.pass); got != c.hash {
			t.Errorf("Mix(%d, %.20q) = %016x, not %016x", c.salt, c.pass, got, c.hash)
		}
	}
}

func TestMixSlow(t *testing.T) {
	for _, salt := range someSalts {
		for _, pass := range somePasses[:len(somePasses)-2] {
			if got, want := Mix(salt, pass), slowMix(salt, pass); got != want {
				t.Errorf("Mix(%d, %q) = %016x, not %016x", salt, pass, got, want)
			}
		}
	}
	for b := range 256 {
		pass := string([]byte{byte(b), 'x', byte(b)})
		if got, want := Mix(b, pass), slowMix(b, pass); got != want {
			t.Errorf("Mix(%d, %q) = %016x, not %016x", b, pass, got, want)
		}
	}
}

// TestMixSalts asks for every salt that the lowest 16 bits can make, beside some with other bits, too.
func TestMixSalts(t *testing.T) {
	seen := map[uint64]int{}
	for salt := range 65536 {
		hash := Mix(salt, "p")
		if other, ok := seen[hash]; ok {
			t.Fatalf("the salts %d and %d make the same hash", salt, other)
		}
		seen[hash] = salt
		for _, far := range []int{salt + 65536, salt - 65536, salt | 1<<40, salt + math.MinInt} {
			if got := Mix(far, "p"); got != hash {
				t.Fatalf("Mix(%d) = %016x, but Mix(%d) = %016x", far, got, salt, hash)
			}
		}
	}
}

func TestField(t *testing.T) {
	for _, c := range []struct {
		salt  int
		pass  string
		field string
	}{
		{7, "", "0007$4a089098f9723aea"},
		{7, "secret", "0007$45b1e8ad6017cd28"},
		{0, "", "0000$73f8cdbfecfaac6b"},
		{65535, "", "ffff$c2bec6be1ffe904a"},
		{256, strings.Repeat("x", 1000), "0100$e7e5fc463678c79b"},
		{0xbeef, "\xff\xfe\x80", "beef$1e0a5de656ce333d"},
		{0x12345, "\u00e9", "2345$3b0db3f71a827fa1"},
		{65537, "a", "0001$23fa85d913de6a22"},
		{-1, "a", "ffff$023dfcb4519604a8"}, // the hash's zero in front is written, too
		{math.MaxInt, "a", "ffff$023dfcb4519604a8"},
		{math.MinInt, "a", "0000$e3615deae6ac0f68"},
	} {
		if got := Field(c.salt, c.pass); got != c.field {
			t.Errorf("Field(%d, %.20q) = %q, not %q", c.salt, c.pass, got, c.field)
		}
	}
	for _, salt := range someSalts {
		for _, pass := range somePasses {
			want := fmt.Sprintf("%04x$%016x", lowSalt(salt), Mix(salt, pass))
			if got := Field(salt, pass); got != want {
				t.Errorf("Field(%d, %.20q) = %q, not %q", salt, pass, got, want)
			}
		}
	}
}

// TestFieldSalts asks for every salt: its field is written, valid, and matched by its password.
func TestFieldSalts(t *testing.T) {
	for salt := range 65536 {
		field := Field(salt, "p")
		if want := fmt.Sprintf("%04x$%016x", salt, Mix(salt, "p")); field != want {
			t.Fatalf("Field(%d) = %q, not %q", salt, field, want)
		}
		if !Right(field) || !Matches(field, "p") || Matches(field, "q") {
			t.Fatalf("the field %q is not right", field)
		}
	}
}

func TestFieldAgain(t *testing.T) {
	for _, salt := range someSalts {
		for _, pass := range somePasses {
			field := Field(salt, pass)
			if !Right(field) {
				t.Errorf("Right(%q) = false", field)
			}
			for _, other := range somePasses {
				if got := Matches(field, other); got != (other == pass) {
					t.Errorf("Matches(Field(%d, %.20q), %.20q) = %v", salt, pass, other, got)
				}
			}
		}
	}
}

func TestMatches(t *testing.T) {
	const field = "0007$45b1e8ad6017cd28"
	for _, c := range []struct {
		field, pass string
		want        bool
	}{
		{"", "", true},
		{"", "x", false},
		{"", "\x00", false},
		{"", " ", false},
		{"*", "*", false},
		{"*", "", false},
		{"*", "secret", false},
		{field, "secret", true},
		{field, "Secret", false},
		{field, "secre", false},
		{field, "secrets", false},
		{field, "secret\n", false},
		{field, "secret\x00", false},
		{field, "", false},
		{field, field, false},
		{"0007$4a089098f9723aea", "", true},
		{"0007$4a089098f9723aea", "secret", false},
		{"0007$0000000000000000", "", false},
		{"ffff$023dfcb4519604a8", "a", true},
		{"0001$45b1e8ad6017cd28", "secret", false}, // another salt's hash
	} {
		if got := Matches(c.field, c.pass); got != c.want {
			t.Errorf("Matches(%q, %q) = %v", c.field, c.pass, got)
		}
	}
}

// TestMatchesOther changes every byte of a field to every other byte: the password matches none of these.
func TestMatchesOther(t *testing.T) {
	for _, pass := range []string{"secret", ""} {
		field := Field(7, pass)
		for place := range len(field) {
			for b := range 256 {
				changed := []byte(field)
				changed[place] = byte(b)
				if got := Matches(string(changed), pass); got != (string(changed) == field) {
					t.Errorf("Matches(%q, %q) = %v", changed, pass, got)
				}
			}
		}
	}
}

// wrongFields are texts near the form of a field that have it not.
func wrongFields() []string {
	const field = "beef$1e0a5de656ce333d"
	return []string{
		"**", " *", "* ", "*\n", "x", " ", "\n", "\x00", "$", "0007", "0007$", "$1e0a5de656ce333d", "1e0a5de656ce333d",
		field[1:], field[:20], field + "0", "0" + field, field + "\n", " " + field, field + field, field + "*", "*" + field, field + "\x00",
		strings.ToUpper(field), "BEEF" + field[4:], field[:5] + strings.ToUpper(field[5:]),
		"bee$f1e0a5de656ce333d", "beef1$e0a5de656ce333d", "beef01e0a5de656ce333d", "$$$$$$$$$$$$$$$$$$$$$", strings.Repeat("0", 21),
		"+eef$1e0a5de656ce333d", "-eef$1e0a5de656ce333d", "0xef$1e0a5de656ce333d", "be_f$1e0a5de656ce333d", " eef$1e0a5de656ce333d", "beef$0x1e0a5de656ce33", "beef$+e0a5de656ce333d", "beef$1e0a5de6_6ce333d",
		"\u0661ef$1e0a5de656ce333d", "beef$1e0a5de656ce33\u0661", "beef$1e0a5de656ce333\u0661",
		"00007$45b1e8ad6017cd28", "007$45b1e8ad6017cd28", "7$45b1e8ad6017cd28", "0007$45b1e8ad6017cd2", "0007$45b1e8ad6017cd280", "0007:45b1e8ad6017cd28",
		strings.Repeat("0", 1<<20), strings.Repeat("*", 21), strings.Repeat("\x00", 21),
	}
}

func TestWrongFields(t *testing.T) {
	for _, field := range wrongFields() {
		if Right(field) {
			t.Errorf("Right(%.40q) = true", field)
		}
		for _, pass := range append(somePasses, field) {
			if Matches(field, pass) {
				t.Errorf("Matches(%.40q, %.20q) = true", field, pass)
			}
		}
	}
}

// TestMatchesUpper writes a right hash in capital digits, and a right salt in too many or too few.
func TestMatchesUpper(t *testing.T) {
	for _, c := range [][2]string{
		{"BEEF$1E0A5DE656CE333D", "\xff\xfe\x80"},
		{"BEEF$1e0a5de656ce333d", "\xff\xfe\x80"},
		{"beef$1E0A5DE656CE333D", "\xff\xfe\x80"},
		{"00007$45b1e8ad6017cd28", "secret"},
		{"7$45b1e8ad6017cd28", "secret"},
		{"ffff$23dfcb4519604a8", "a"},
		{"ffff$0023dfcb4519604a8", "a"},
	} {
		if Matches(c[0], c[1]) || Right(c[0]) {
			t.Errorf("%q is a field", c[0])
		}
	}
}

func TestRight(t *testing.T) {
	for _, field := range []string{
		"", "*", "0000$0000000000000000", "ffff$ffffffffffffffff", "0123$456789abcdef0123", "abcd$ef0123456789abcd", "0007$45b1e8ad6017cd28",
	} {
		if !Right(field) {
			t.Errorf("Right(%q) = false", field)
		}
	}
}

// TestRightBytes puts every byte into every place of a field.
func TestRightBytes(t *testing.T) {
	const field = "0123$456789abcdef0123"
	for place := range len(field) {
		for b := range 256 {
			right := strings.IndexByte("0123456789abcdef", byte(b)) >= 0
			if place == 4 {
				right = b == '$'
			}
			changed := []byte(field)
			changed[place] = byte(b)
			if got := Right(string(changed)); got != right {
				t.Errorf("Right(%q) = %v", changed, got)
			}
		}
	}
	for b := range 256 {
		if got := Right(string([]byte{byte(b)})); got != (b == '*') {
			t.Errorf("Right of the byte %d alone: %v", b, got)
		}
	}
}

func TestRightLengths(t *testing.T) {
	const whole = "0123$456789abcdef0123"
	for size := range len(whole) + 1 {
		if got := Right(whole[:size]); got != (size == 0 || size == len(whole)) {
			t.Errorf("Right(%q) = %v", whole[:size], got)
		}
		for _, digit := range []string{"0", "f"} {
			if s := strings.Repeat(digit, size); Right(s) != (size == 0) {
				t.Errorf("Right(%q) = %v", s, size != 0)
			}
		}
	}
}
