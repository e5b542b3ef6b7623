package frame

// The two kinds of sum, as rows of steps.
const (
	sumKind = iota
	sealKind
)

const (
	// sumTurn is what goes into the register of a sum when a set bit leaves it.
	sumTurn = uint32(0xEDB88320)
	// one is the power 0 of x, and byteShift the power 8, as a register holds them: its top bit is the lowest power.
	one       = uint32(1) << 31
	byteShift = one >> 8
)

// steps tells, for each kind and each four bits that leave the register, what goes into it. Four bits at a time, for a table of whole bytes would be too long to be written out.
var steps = [2][16]uint32{
	{
		0x00000000, 0x1db71064, 0x3b6e20c8, 0x26d930ac, 0x76dc4190, 0x6b6b51f4, 0x4db26158, 0x5005713c,
		0xedb88320, 0xf00f9344, 0xd6d6a3e8, 0xcb61b38c, 0x9b64c2b0, 0x86d3d2d4, 0xa00ae278, 0xbdbdf21c,
	},
	{
		0x00000000, 0x105ec76f, 0x20bd8ede, 0x30e349b1, 0x417b1dbc, 0x5125dad3, 0x61c69362, 0x7198540d,
		0x82f63b78, 0x92a8fc17, 0xa24bb5a6, 0xb21572c9, 0xc38d26c4, 0xd3d3e1ab, 0xe330a81a, 0xf36e6f75,
	},
}

// Sum is the CRC-32 of b.
func Sum(b []byte) uint32 {
	return Extend(0, b)
}

// Extend is the sum of a list of that sum with b behind it.
func Extend(sum uint32, b []byte) uint32 {
	return ^goOver(sumKind, ^sum, b)
}

// Seal is the CRC-32C of b: the sum of a whole image.
func Seal(b []byte) uint32 {
	return ^goOver(sealKind, ^uint32(0), b)
}

// goOver is the register behind the bytes of b.
func goOver(kind int, register uint32, b []byte) uint32 {
	for _, c := range b {
		register ^= uint32(c)
		register = register>>4 ^ steps[kind][register&15]
		register = register>>4 ^ steps[kind][register&15]
	}
	return register
}

// Join is the sum of two lists, from their sums and the length of the second. To go over a byte that is 0 is to multiply the register, as a polynomial, by the power 8 of x: so n of them are one power, and squaring comes to it in as many steps as n has binary digits.
func Join(a, b uint32, n int) uint32 {
	power := byteShift
	for left := max(n, 0); left > 0; left >>= 1 {
		if left&1 == 1 {
			a = times(a, power)
		}
		power = times(power, power)
	}
	return a ^ b
}

// times multiplies two registers of a sum as polynomials.
func times(p, q uint32) uint32 {
	product := uint32(0)
	for bit := one; bit > 0; bit >>= 1 {
		if p&bit != 0 {
			product ^= q
		}
		q = timesX(q)
	}
	return product
}

// timesX is the register of a sum with one bit more gone over.
func timesX(q uint32) uint32 {
	if q&1 == 1 {
		return q>>1 ^ sumTurn
	}
	return q >> 1
}
