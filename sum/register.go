package sum

// poly is the polynomial without its x^32, its highest power in the lowest bit, as a register holds them.
const poly = 0x82F63B78

// nibbles are what four steps make of the registers 0 to 15: with them bytes are led on several times as fast as bit by bit.
var nibbles = [16]uint32{
	0x00000000, 0x105EC76F, 0x20BD8EDE, 0x30E349B1,
	0x417B1DBC, 0x5125DAD3, 0x61C69362, 0x7198540D,
	0x82F63B78, 0x92A8FC17, 0xA24BB5A6, 0xB21572C9,
	0xC38D26C4, 0xD3D3E1AB, 0xE330A81A, 0xF36E6F75,
}

// feed leads a register on by bytes, half a byte at a time.
func feed(r uint32, b []byte) uint32 {
	for _, c := range b {
		r ^= uint32(c)
		r = r>>4 ^ nibbles[r&15]
		r = r>>4 ^ nibbles[r&15]
	}
	return r
}

// step leads a register on by one bit 0.
func step(r uint32) uint32 {
	if r&1 == 1 {
		return r>>1 ^ poly
	}
	return r >> 1
}

// back takes a step back: the highest bit of poly is 1, so a register's highest bit tells whether its step took poly in.
func back(r uint32) uint32 {
	if r>>31 == 1 {
		return (r^poly)<<1 | 1
	}
	return r << 1
}

// zeros is how bytes 0, so many as it stands for, lead registers on: what becomes of each bit, the lowest first. A register becomes what its bits become, exclusive or.
type zeros [32]uint32

// oneZero stands for one byte 0.
func oneZero() zeros {
	var z zeros
	for i := range z {
		z[i] = 1 << i
		for range 8 {
			z[i] = step(z[i])
		}
	}
	return z
}

// lead is what becomes of a register.
func (z zeros) lead(r uint32) uint32 {
	out := uint32(0)
	for i, bit := range z {
		if r>>i&1 == 1 {
			out ^= bit
		}
	}
	return out
}

// twice stands for twice as many bytes.
func (z zeros) twice() zeros {
	var out zeros
	for i, bit := range z {
		out[i] = z.lead(bit)
	}
	return out
}

// pass leads a register on by so many bytes 0, in as many rounds as the number has bits.
func pass(r uint32, size int) uint32 {
	for z := oneZero(); size > 0; size >>= 1 {
		if size&1 == 1 {
			r = z.lead(r)
		}
		z = z.twice()
	}
	return r
}
